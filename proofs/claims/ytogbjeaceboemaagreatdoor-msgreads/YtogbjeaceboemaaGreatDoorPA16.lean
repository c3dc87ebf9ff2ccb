import Derived.Test.YtogbjeaceboemaaGreatDoorPA12
import Derived.Test.YtogbjeaceboemaaGreatDoorPA8
import Derived.Test.YtogbjeaceboemaaGreatDoorPA15
namespace Go.Proofs.YtogbjeaceboemaaGreatDoor
open Go.RowKit
set_option maxRecDepth 100000
section
attribute [local go_sem ↓] keptO_store keptO_alloc keptO_build
set_option maxHeartbeats 4000000 in
theorem readopen_good (g o n c:Nat)(bs:List Nat)(w:World)(hn:bs.length=n)(hn10:10≤n)(hl:n≤5000)(hcap:n≤c)(h:BRd w (some ⟨g,o,none⟩) bs)(h4:bs.getD 0 0=4)(hfit:bs.getD 9 0=n - 10)(cc:Cp)(hr:readC (bs.drop 10)=some cc)(hs:asB (numB ((bs.drop 1).take 2)) cc=true) :
  Calls Tryz.prog 25 #[.slice (some ⟨g,o,none⟩) n c] w fun e w'=>OpIs w w' e (.inr (asV (numB ((bs.drop 1).take 2)) cc,numB ((bs.drop 3).take 2),numB ((bs.drop 5).take 4),cc))∧Below w.heap.size w w':=by
 obtain ⟨g',o',e9,hc⟩:=h.1.2 (by omega)
 cases e9
 have h0:w.cell? ⟨g,o,none⟩=some (.int .u8 4):=by have:=hc 0 (by omega); rw [Nat.add_zero] at this; rw [this]; show some (Value.int .u8 ((bs.getD 0 0:Nat):Int))=_; rw [h4]; rfl
 have zg:=World.block_lt_of_cell? w _ h0
 simp only at zg
 have HW:Hid (OW w ((w.alloc (.cells zO 28)).alloc (.cells #[.int .i64 0,.int .i64 0,.slice none 0 0] 38))):=OW.made w
 have c0:((w.alloc (.cells zO 28)).alloc (.cells #[.int .i64 0,.int .i64 0,.slice none 0 0] 38)).cell? ⟨g,o,none⟩=some (.int .u8 4):=by rw [HW.out.bel.cell (p:=⟨g,o,none⟩) zg]; exact h0
 have hc9:¬ c=9:=by omega
 have KC:=hide (cut_fits (w:=((w.alloc (.cells zO 28)).alloc (.cells #[.int .i64 0,.int .i64 0,.slice none 0 0] 38))) hn hn10 hl hcap (h.below HW.out.bel) hfit)
 have hpl:(bs.drop 10).length=n - 10:=by rw [List.length_drop]; omega
 have KD:Hid (∀ m ap cp,n - 10≤cp→BRd ((w.alloc (.cells zO 28)).alloc (.cells #[.int .i64 0,.int .i64 0,.slice none 0 0] 38)) ap (bs.drop 10)→Calls Tryz.prog 43 #[.slice ap (n - 10) cp] (((w.alloc (.cells zO 28)).alloc (.cells #[.int .i64 0,.int .i64 0,.slice none 0 0] 38)).drewN m) fun e w'=>e=.returned (decV (readC (bs.drop 10)))∧Hid (Below w.heap.size w w')∧Hid (OW w w')):=fun m ap cp h1 h2=>by
  have:=decc_any ap cp (bs.drop 10) (((w.alloc (.cells zO 28)).alloc (.cells #[.int .i64 0,.int .i64 0,.slice none 0 0] 38)).drewN m) (by omega) (by omega) (h2.below ⟨rfl,rfl,rfl,Nat.le_refl _,fun _ _=>rfl⟩)
  rw [hpl] at this
  refine this.mono ?_
  rintro e w' ⟨rfl,hb⟩
  have hw:=(HW.out.later (W':=((w.alloc (.cells zO 28)).alloc (.cells #[.int .i64 0,.int .i64 0,.slice none 0 0] 38)).drewN m) ⟨rfl,rfl,rfl,Nat.le_refl _,fun _ _=>rfl⟩).later hb
  exact ⟨rfl,hw.bel,hw⟩
 have KE:Hid (∀ X s,OW w X→Calls Tryz.prog 24 #[.int .i64 2,.int .i64 ((s:Nat):Int),.slice none 0 0] X fun e w3=>∃ a9 c9 W5,e=.returned (.agg #[.int .i64 2,.int .i64 (s:Int),.slice a9 0 c9])∧Hid ((Instr.storeAt 28 (.pointer (some ⟨w.heap.size,0,none⟩)) (.agg zO)).run Tryz.prog w3=.ok () W5)∧Hid (NtBox W5 (w.heap.size+1))∧Hid (OEnd w W5 2 s [] a9 0 c9)):=fun X s hX=>open_end w X hX 2 s none 0 0 [] rfl (by decide) (brd_none _ _)
 unfold OpIs NoteIs
 simp only
 have hni:(9:Int)≤(n:Int):=by omega
 have hnc:(n:Int)≤(c:Int):=by omega
 have hn0:(0:Int) < (n:Int):=by omega
 simp only [hr,decV,capV,Option.getD_some,Option.isSome_some] at KD
 have HN:Hid (∀ X,Below w.heap.size w X→Calls Tryz.prog 41 #[.slice (some ⟨g,o+1,none⟩) 2 (c - 1)] X fun e w'=>e=.returned (.int .i64 (numB ((bs.drop 1).take 2):Int))∧w'=X):=fun X hX=>num_in (h.below hX) (by omega) (by omega) (by omega)
 have HN3:Hid (∀ X,Below w.heap.size w X→Calls Tryz.prog 41 #[.slice (some ⟨g,o+3,none⟩) 2 (c - 3)] X fun e w'=>e=.returned (.int .i64 (numB ((bs.drop 3).take 2):Int))∧w'=X):=fun X hX=>num_in (h.below hX) (by omega) (by omega) (by omega)
 have HN5:Hid (∀ X,Below w.heap.size w X→Calls Tryz.prog 41 #[.slice (some ⟨g,o+5,none⟩) 4 (c - 5)] X fun e w'=>e=.returned (.int .i64 (numB ((bs.drop 5).take 4):Int))∧w'=X):=fun X hX=>num_in (h.below hX) (by omega) (by omega) (by omega)
 have hid:numB ((bs.drop 5).take 4) < 4294967296:=by
  have h9:=numB_lt ((bs.drop 5).take 4) (brd_from h 5 4 (by omega)).2
  have hl4:((bs.drop 5).take 4).length=4:=by rw [List.length_take,List.length_drop]; omega
  rw [hl4] at h9
  exact h9
 have HA:Hid (∀ X,Calls Tryz.prog 44 #[.int .i64 (numB ((bs.drop 1).take 2):Int),.agg #[.bool cc.four,.int .i64 cc.as4,.bool cc.gr,.bool cc.rs,.int .i64 cc.tm,.bool cc.fam,.bool cc.fwd,.bool cc.ll,.int .i64 cc.lt]] X fun e w'=>e=.returned (.tuple #[.int .i64 (asV (numB ((bs.drop 1).take 2)) cc),.bool true])∧Below X.heap.size X w'):=fun X=>by
  have:=readas_any (numB ((bs.drop 1).take 2)) cc X
  rw [hs] at this
  exact this
 have hl5:=hl
 have HL5:=hide hl5
 have HCA:=hide hcap
 clear hc h hfit h4 hcap hl hl5 hn hpl hr hs
 generalize asV (numB ((bs.drop 1).take 2)) cc=AV at *
 generalize numB ((bs.drop 1).take 2)=s at *
 generalize numB ((bs.drop 3).take 2)=hh at *
 generalize numB ((bs.drop 5).take 4)=ii at *
 obtain ⟨four,as4,gr,rs,tm,fam,fwd,ll,lt⟩:=cc
 simp only at KD HA
 have hc1:¬ c=1:=by omega
 go_enter Tryz.func25,Tryz.ntmps25
 go_wp2_with (first | (refine keptO_alloc_intro _ (run_allocO w) ?_))
 with_reducible refine KC.out.mono ?_
 rintro e w1 ⟨ap,cp,aq,cq,m,rfl,rfl,HP,hcp⟩
 go_wp2_with fail
 with_reducible refine (KD.out m ap cp hcp HP.out).mono ?_
 rintro e w2 ⟨rfl,HB2,HW2⟩
 have HBA:Hid (Below w.heap.size w (w2.alloc (.cells #[.bool four,.int .i64 as4,.bool gr,.bool rs,.int .i64 tm,.bool fam,.bool fwd,.bool ll,.int .i64 lt] 26))):=HB2.out.alloc HB2.out.size _
 have HWA:Hid (OW w (w2.alloc (.cells #[.bool four,.int .i64 as4,.bool gr,.bool rs,.int .i64 tm,.bool fam,.bool fwd,.bool ll,.int .i64 lt] 26))):=HW2.out.later ((Below.refl _ _).alloc (Nat.le_refl _) _)
 have HYA:Hid ((w2.alloc (.cells #[.bool four,.int .i64 as4,.bool gr,.bool rs,.int .i64 tm,.bool fam,.bool fwd,.bool ll,.int .i64 lt] 26)).heap[w2.heap.size]?=some (.cells #[.bool four,.int .i64 as4,.bool gr,.bool rs,.int .i64 tm,.bool fam,.bool fwd,.bool ll,.int .i64 lt] 26 (0,0))):=heap_alloc_new w2 _
 have hz2:w.heap.size+1 < w2.heap.size:=(Array.getElem?_eq_some_iff.1 HW2.out.bN).1
 have KN:Hid (∀ x:Later (w2.alloc (.cells #[.bool four,.int .i64 as4,.bool gr,.bool rs,.int .i64 tm,.bool fam,.bool fwd,.bool ll,.int .i64 lt] 26)),Calls Tryz.prog 41 #[.slice (some ⟨g,o+1,none⟩) 2 (c - 1)] x.w fun e w'=>e=.returned (.int .i64 (s:Int))∧∃ y:Later (w2.alloc (.cells #[.bool four,.int .i64 as4,.bool gr,.bool rs,.int .i64 tm,.bool fam,.bool fwd,.bool ll,.int .i64 lt] 26)),w'=y.w):=fun x=>calls_same x (HN.out x.w (HBA.out.trans (x.h.mono HBA.out.size)))
 have KA:Hid (∀ x:Later (w2.alloc (.cells #[.bool four,.int .i64 as4,.bool gr,.bool rs,.int .i64 tm,.bool fam,.bool fwd,.bool ll,.int .i64 lt] 26)),Calls Tryz.prog 44 #[.int .i64 (s:Int),.agg #[.bool four,.int .i64 as4,.bool gr,.bool rs,.int .i64 tm,.bool fam,.bool fwd,.bool ll,.int .i64 lt]] x.w fun e w'=>e=.returned (.tuple #[.int .i64 AV,.bool true])∧∃ y:Later (w2.alloc (.cells #[.bool four,.int .i64 as4,.bool gr,.bool rs,.int .i64 tm,.bool fam,.bool fwd,.bool ll,.int .i64 lt] 26)),w'=y.w):=fun x=>calls_later x (HA.out x.w)
 have y0:∀ x:Later (w2.alloc (.cells #[.bool four,.int .i64 as4,.bool gr,.bool rs,.int .i64 tm,.bool fam,.bool fwd,.bool ll,.int .i64 lt] 26)),x.w.cell? ⟨w2.heap.size,0,none⟩=some (.bool four):=fun x=>x.cell (by simp [go_sem])
 have y1:∀ x:Later (w2.alloc (.cells #[.bool four,.int .i64 as4,.bool gr,.bool rs,.int .i64 tm,.bool fam,.bool fwd,.bool ll,.int .i64 lt] 26)),x.w.cell? ⟨w2.heap.size,1,none⟩=some (.int .i64 as4):=fun x=>x.cell (by simp [go_sem])
 have y2:∀ x:Later (w2.alloc (.cells #[.bool four,.int .i64 as4,.bool gr,.bool rs,.int .i64 tm,.bool fam,.bool fwd,.bool ll,.int .i64 lt] 26)),x.w.cell? ⟨w2.heap.size,2,none⟩=some (.bool gr):=fun x=>x.cell (by simp [go_sem])
 have y3:∀ x:Later (w2.alloc (.cells #[.bool four,.int .i64 as4,.bool gr,.bool rs,.int .i64 tm,.bool fam,.bool fwd,.bool ll,.int .i64 lt] 26)),x.w.cell? ⟨w2.heap.size,3,none⟩=some (.bool rs):=fun x=>x.cell (by simp [go_sem])
 have y4:∀ x:Later (w2.alloc (.cells #[.bool four,.int .i64 as4,.bool gr,.bool rs,.int .i64 tm,.bool fam,.bool fwd,.bool ll,.int .i64 lt] 26)),x.w.cell? ⟨w2.heap.size,4,none⟩=some (.int .i64 tm):=fun x=>x.cell (by simp [go_sem])
 have y5:∀ x:Later (w2.alloc (.cells #[.bool four,.int .i64 as4,.bool gr,.bool rs,.int .i64 tm,.bool fam,.bool fwd,.bool ll,.int .i64 lt] 26)),x.w.cell? ⟨w2.heap.size,5,none⟩=some (.bool fam):=fun x=>x.cell (by simp [go_sem])
 have y6:∀ x:Later (w2.alloc (.cells #[.bool four,.int .i64 as4,.bool gr,.bool rs,.int .i64 tm,.bool fam,.bool fwd,.bool ll,.int .i64 lt] 26)),x.w.cell? ⟨w2.heap.size,6,none⟩=some (.bool fwd):=fun x=>x.cell (by simp [go_sem])
 have y7:∀ x:Later (w2.alloc (.cells #[.bool four,.int .i64 as4,.bool gr,.bool rs,.int .i64 tm,.bool fam,.bool fwd,.bool ll,.int .i64 lt] 26)),x.w.cell? ⟨w2.heap.size,7,none⟩=some (.bool ll):=fun x=>x.cell (by simp [go_sem])
 have y8:∀ x:Later (w2.alloc (.cells #[.bool four,.int .i64 as4,.bool gr,.bool rs,.int .i64 tm,.bool fam,.bool fwd,.bool ll,.int .i64 lt] 26)),x.w.cell? ⟨w2.heap.size,8,none⟩=some (.int .i64 lt):=fun x=>x.cell (by simp [go_sem])
 have hne:=later_some (w2.alloc (.cells #[.bool four,.int .i64 as4,.bool gr,.bool rs,.int .i64 tm,.bool fam,.bool fwd,.bool ll,.int .i64 lt] 26))
 go_wp2_with fail
 refine region_later (by kernel_rfl) (by kernel_rfl) ?_
 repeat (go_big_quiet_step (first | (go_at_call 41; with_reducible exact KN.out _) | (go_at_call 44; with_reducible exact KA.out _)))
 refine wpQuiet_nil ?_
 rintro _ ⟨xq,rfl⟩
 have HWX:=hide (HWA.out.later xq.h)
 have HYX:Hid (xq.w.heap[w2.heap.size]?=some (.cells (capC ⟨four,as4,gr,rs,tm,fam,fwd,ll,lt⟩) 26 (0,0))):=by
  show _=_
  rw [xq.h.block _ (by simp)]; exact HYA.out
 have kb:∀ X,Keeps (fun k=>k=w.heap.size∨k=w.heap.size+1) xq.w X→Below w.heap.size w X:=fun X hX=>HWX.out.bel.trans (hX.below _ HWX.out.bel.size (fun x e=>by omega))
 have HKB:=hide kb
 clear kb
 go_wp2_with fail
 refine o_region _ xq.w w.heap.size (w.heap.size+1) w2.heap.size g o n c AV hh ii ⟨four,as4,gr,rs,tm,fam,fwd,ll,lt⟩ zO #[.int .i64 0,.int .i64 0,.slice none 0 0] (opi rfl) (opi rfl) (opi rfl) (opi rfl) (opi rfl) (opi rfl) (opi rfl) (opi rfl) (opi rfl) (opi rfl) (opi rfl) (opi rfl) (opi rfl) rfl (by kernel_rfl)
  (by kernel_rfl) (by kernel_rfl) (by kernel_rfl) (by kernel_rfl) (by kernel_rfl) (by kernel_rfl) (by kernel_rfl) (by kernel_rfl) (by kernel_rfl) (by kernel_rfl) (by kernel_rfl) (by kernel_rfl) (by kernel_rfl) (by kernel_rfl)
  rfl rfl rfl rfl rfl rfl hn10 HL5.out HCA.out hid HWX.out.bO HWX.out.bN (by omega) rfl rfl HYX.out (by omega) (fun X hX=>HN3.out X (HKB.out X hX)) (fun X hX=>HN5.out X (HKB.out X hX)) ?_
 intro a v2 v3 hd
 have hd0:a.defers=[]:=hd
 have HRO:Hid (((({ xq.w with drawn:=xq.w.drawn+1 } : World).setCells w.heap.size 0 (openC AV hh ii ⟨four,as4,gr,rs,tm,fam,fwd,ll,lt⟩).toList).setCells (w.heap.size+1) 0 (#[.int .i64 0,.int .i64 0,.slice none 0 0]:Array Value).toList).rangeAt w.heap.size 0 (openC AV hh ii ⟨four,as4,gr,rs,tm,fam,fwd,ll,lt⟩).toList):=bx_apart (bx_set (w:={ xq.w with drawn:=xq.w.drawn+1 }) (C0:=zO) (t:=28) HWX.out.bO (by rw [(OC.made _ _ _ _).1,OC.zero.1]; omega)) (by omega)
 have HRN:Hid (((({ xq.w with drawn:=xq.w.drawn+1 } : World).setCells w.heap.size 0 (openC AV hh ii ⟨four,as4,gr,rs,tm,fam,fwd,ll,lt⟩).toList).setCells (w.heap.size+1) 0 (#[.int .i64 0,.int .i64 0,.slice none 0 0]:Array Value).toList).rangeAt (w.heap.size+1) 0 (#[.int .i64 0,.int .i64 0,.slice none 0 0]:Array Value).toList) :=
  bx_set (C0:=#[.int .i64 0,.int .i64 0,.slice none 0 0]) (t:=38) (by rw [heap_sets (by omega)]; exact HWX.out.bN) (by simp)
 have HBE:Hid (Below w.heap.size w ((({ xq.w with drawn:=xq.w.drawn+1 } : World).setCells w.heap.size 0 (openC AV hh ii ⟨four,as4,gr,rs,tm,fam,fwd,ll,lt⟩).toList).setCells (w.heap.size+1) 0 (#[.int .i64 0,.int .i64 0,.slice none 0 0]:Array Value).toList)) :=
  HKB.out _ ((Keeps.setCells (w:=xq.w) (w1:={ xq.w with drawn:=xq.w.drawn+1 }) ⟨rfl,rfl,rfl,Nat.le_refl _,fun _ _ _=>rfl⟩ _ 0 _ (.inl (.inl rfl))).setCells _ 0 _ (.inl (.inr rfl)))
 generalize ((({ xq.w with drawn:=xq.w.drawn+1 } : World).setCells w.heap.size 0 (openC AV hh ii ⟨four,as4,gr,rs,tm,fam,fwd,ll,lt⟩).toList).setCells (w.heap.size+1) 0 (#[.int .i64 0,.int .i64 0,.slice none 0 0]:Array Value).toList)=W9 at *
 go_wp2_with fail
 exact bodyPost_ret (v:=.tuple #[.agg (openC AV hh ii ⟨four,as4,gr,rs,tm,fam,fwd,ll,lt⟩),.agg #[.int .i64 0,.int .i64 0,.slice none 0 0]]) (res_cells2 Tryz.results25 _ W9 w.heap.size (w.heap.size+1) (openC AV hh ii ⟨four,as4,gr,rs,tm,fam,fwd,ll,lt⟩) #[.int .i64 0,.int .i64 0,.slice none 0 0] v2 v3 HRO.out HRN.out Tryz.underlying28 rfl infoO Tryz.underlying38 rfl infoN) hd0 ⟨rfl,HBE.out⟩
end
theorem readopen_any (g o n c:Nat)(bs:List Nat)(w:World)(hn:bs.length=n)(hn10:10≤n)(hl:n≤5000)(hcap:n≤c)(h:BRd w (some ⟨g,o,none⟩) bs) :
  Calls Tryz.prog 25 #[.slice (some ⟨g,o,none⟩) n c] w fun e w'=>OpIs w w' e (openR bs)∧Below w.heap.size w w':=by
 unfold openR
 by_cases h4:bs.getD 0 0=4
 ·rw [if_neg (fun x=>x h4)]
  by_cases hf:bs.getD 9 0=n - 10
  ·rw [hn,if_neg (fun x=>x hf)]
   cases hr:readC (bs.drop 10) with
   | none=>exact readopen_none g o n c bs w hn hn10 hl hcap h h4 hf hr
   | some cc =>
    simp only
    by_cases hs:asB (numB ((bs.drop 1).take 2)) cc=true
    ·rw [if_pos hs]; exact readopen_good g o n c bs w hn hn10 hl hcap h h4 hf cc hr hs
    ·rw [if_neg hs]; exact readopen_as g o n c bs w hn hn10 hl hcap h h4 hf cc hr (by simpa using hs)
  ·rw [hn,if_pos hf]; exact readopen_fit g o n c bs w hn hn10 hl hcap h h4 hf
 ·rw [if_pos h4]
  obtain ⟨g',o',e9,hc⟩:=h.1.2 (by omega)
  cases e9
  exact readopen_ver g o n c (bs.getD 0 0) w hn10 (by have:=hc 0 (by omega); rwa [Nat.add_zero] at this) h4
def openMsg (k:Int)(O:Array Value):Array Value:=#[.int .i64 k]++O++#[.slice none 0 0,.int .i64 0,.slice none 0 0,.int .u32 0,.int .i64 0,.int .i64 0,.slice none 0 0,.slice none 0 0,.slice none 0 0,.int .i64 0,.int .i64 0,.slice none 0 0]
theorem MC.openMsg (k:Int){O:Array Value}(h:OC O):MC (openMsg k O):=by
 refine ⟨by simp [Proofs.YtogbjeaceboemaaGreatDoor.openMsg,h.1],?_⟩
 have h2:=h.2
 unfold Proofs.YtogbjeaceboemaaGreatDoor.openMsg
 simp only [Array.all_append,h2]
 simp [Value.oneCell']
theorem store_open {w:World}{Y:Nat}{k:Int}{O:Array Value} (hO:OC O) (h:w.heap[Y]?=some (.cells (msgC k 0 0 (.slice none 0 0)) 40 (0,0))) :
  ∃ W8,(Instr.storeAt 28 (.pointer (some ⟨Y,1,none⟩)) (.agg O)).run Tryz.prog w=.ok () W8∧W8.heap[Y]?=some (.cells (openMsg k O) 40 (0,0))∧(∀ j,j≠Y→W8.heap[j]?=w.heap[j]?)∧W8.heap.size=w.heap.size∧Keeps (fun x=>x=Y) w W8:=by
 have ht:w.there Y 1 O.size:=fun j hj=>by
  rw [hO.1] at hj
  refine ⟨?_,by simp [World.frozen?,h]⟩
  have:1+j < (msgC k 0 0 (.slice none 0 0)).size:=by show 1+j < 25; omega
  simp only [World.cell?,h]
  rw [Array.getElem?_eq_getElem this]
  rfl
 have hk:Keeps (fun x=>x=Y) w (w.setCells Y 1 O.toList):=(Keeps.refl _ _).setCells Y 1 _ (.inl rfl)
 have hsz:∀ (vs:List Value) (o:Nat) (w:World),(w.setCells Y o vs).heap.size=w.heap.size:=by
  intro vs
  induction vs with
  | nil=>intro o w; rfl
  | cons v r ih=>intro o w; rw [World.setCells,ih]; simp
 refine ⟨w.setCells Y 1 O.toList,run_storeAt_mid (P:=Tryz.prog) w Y 1 28 O ht (by rw [infoO,hO.1]) hO.2,?_,fun j hj=>?_,hsz _ _ _,hk⟩
 ·obtain ⟨C',h2,h3⟩:=shape_set O.toList 1 w _ h
  have hin:=World.rangeAt_setCells_same w Y 1 O.toList (by simpa using ht)
  have hC:∀ j,C'[j]?=(w.setCells Y 1 O.toList).cell? ⟨Y,j,none⟩:=fun j=>by simp [World.cell?,h2]
  have h0:∀ j,(msgC k 0 0 (.slice none 0 0))[j]?=w.cell? ⟨Y,j,none⟩:=fun j=>by simp [World.cell?,h]
  have:C'=openMsg k O:=by
   apply Array.ext_getElem?
   intro j
   have hs12:=hO.1
   rw [hC]
   by_cases hj:1≤j∧j < 13
   ·have h5:=hin (j - 1) O[j - 1] (by rw [Array.getElem?_toList,Array.getElem?_eq_getElem (by omega)])
    rw [show 1+(j - 1)=j by omega] at h5
    rw [h5]
    unfold openMsg
    rw [Array.getElem?_append_left (by simp; omega),Array.getElem?_append_right (by simp; omega)]
    simp [Array.getElem?_eq_getElem (show j - 1 < O.size by omega)]
   ·rw [World.cell?_setCells_out Y O.toList 1 w ⟨Y,j,none⟩ (fun _ _=>by show j < 1∨1+O.toList.length≤j; simp [hs12]; omega),← h0]
    unfold openMsg
    by_cases hj0:j=0
    ·subst hj0
     rw [Array.getElem?_append_left (by simp; omega),Array.getElem?_append_left (by simp)]
     rfl
    ·rw [Array.getElem?_append_right (by simp; omega)]
     by_cases h25:j < 25
     ·have hjs:j=13∨j=14∨j=15∨j=16∨j=17∨j=18∨j=19∨j=20∨j=21∨j=22∨j=23∨j=24:=by omega
      have e13:(#[Value.int .i64 k]++O).size=13:=by simp [hs12]
      rw [e13]
      rcases hjs with rfl | rfl | rfl | rfl | rfl | rfl | rfl | rfl | rfl | rfl | rfl | rfl <;> rfl
     ·rw [Array.getElem?_eq_none (by show 25≤j; omega),Array.getElem?_eq_none (by simp [hs12]; omega)]
  rw [h2,this]
 ·by_cases hjj:j < w.heap.size
  ·exact hk.block j hjj hj
  ·rw [Array.getElem?_eq_none (by rw [hsz]; omega),Array.getElem?_eq_none (by omega)]
section
variable {a:Act}{w:World}{dst:Option Tmp}{ty:TypeId}{pos:String}{after:Array Edge}{K:Act→World→Prop}{Q:Exit→Act→World→Prop}{ρ:Operand→Value}
theorem run_rnum (x:Operand)(u:Value)(hf:ρ (.func 29)=.func (.func 29) #[] #[])(hx:ρ x=u) :
  (execOp ρ { dst:=dst,op:=.call { callee:=.value (.func 29),args:=#[x],argTypes:=#[22] },type:=ty,pos:=pos,after:=after,guard:=none }).run Tryz.prog w=.ok (.enter 29 #[u]) w:=by
 unfold execOp
 simp [resolve,invoke,hf,hx,go_sem]
theorem call_rnum (x:Operand)(u:Value)(hx:a.eval x=u)(h:Calls Tryz.prog 29 #[u] w fun e w'=>∃ r,e=.returned r∧K (a.put dst r) w') :
  Oper.wp Tryz.prog { dst:=dst,op:=.call { callee:=.value (.func 29),args:=#[x],argTypes:=#[22] },type:=ty,pos:=pos,after:=after,guard:=none } a w K Q:=by
 unfold Oper.wp
 rw [run_rnum (ρ:=a.eval) x u rfl hx]
 refine Calls.mono h ?_
 rintro _ w' ⟨r,rfl,hk⟩
 exact hk
end
section
variable {ops:Array Oper}{Q:Exit→Act→World→Prop}{id:Nat}
set_option maxHeartbeats 1600000 in
theorem ro_region (b:Act)(w1:World)(X Y g o n c x y hh ii:Nat)(A:Int)(cc:Cp)
  (o0:opk ops 0 (some 109) (.move (.tmp 10)))
  (o1:opk ops 1 (some 110) (.move (.tmp 7)))
  (o2:opk ops 2 (some 111) (.indexAddr 22 (.tmp 110) (.const (.int .i64 3))))
  (o3:opk ops 3 (some 112) (.load 5 (.tmp 111)))
  (o4:opk ops 4 (some 113) (.convert 5 3 (.tmp 112)))
  (o5:opk ops 5 (some 114) (.binOp .mul 3 (.const (.int .i64 256)) (.tmp 113) 3))
  (o6:opk ops 6 (some 115) (.move (.tmp 7)))
  (o7:opk ops 7 (some 116) (.indexAddr 22 (.tmp 115) (.const (.int .i64 4))))
  (o8:opk ops 8 (some 117) (.load 5 (.tmp 116)))
  (o9:opk ops 9 (some 118) (.convert 5 3 (.tmp 117)))
  (o10:opk ops 10 (some 119) (.binOp .add 3 (.tmp 114) (.tmp 118) 3))
  (o11:opk ops 11 (some 120) (.move (.tmp 7)))
  (o12:opk ops 12 (some 121) (.slice 22 (.tmp 120) (some (.const (.int .i64 5))) none none))
  (o13:opk ops 13 (some 122) (.call { callee:=.value (.func 29),args:=#[.tmp 121],argTypes:=#[22] }))
  (o14:opk ops 14 (some 123) (.convert 3 24 (.tmp 122)))
  (o15:opk ops 15 (some 124) (.load 26 (.tmp 8)))
  (o16:opk ops 16 (some 125) (.build 28 #[(0,.tmp 109),(1,.tmp 119),(2,.tmp 123),(3,.tmp 124)]))
  (o17:opk ops 17 (some 126) (.fieldAddr 40 (.tmp 6) 1))
  (o18:opk ops 18 none (.store 28 (.tmp 126) (.tmp 125)))
  (hsz:ops.size=19) (hns:Region.noSelect ops=true)
  (t0:tk ops #[false,false,false,false,false,false,false,false,false,false,false,false,false,false,false,false,false,false,false] 0=true)
  (t1:tk ops #[true,false,false,false,false,false,false,false,false,false,false,false,false,false,false,false,false,false,false] 1=true)
  (t2:tk ops #[true,true,false,false,false,false,false,false,false,false,false,false,false,false,false,false,false,false,false] 2=true)
  (t3:tk ops #[true,true,true,false,false,false,false,false,false,false,false,false,false,false,false,false,false,false,false] 3=true)
  (t4:tk ops #[true,true,true,true,false,false,false,false,false,false,false,false,false,false,false,false,false,false,false] 4=true)
  (t5:tk ops #[true,true,true,true,true,false,false,false,false,false,false,false,false,false,false,false,false,false,false] 5=true)
  (t6:tk ops #[true,true,true,true,true,true,false,false,false,false,false,false,false,false,false,false,false,false,false] 6=true)
  (t7:tk ops #[true,true,true,true,true,true,true,false,false,false,false,false,false,false,false,false,false,false,false] 7=true)
  (t8:tk ops #[true,true,true,true,true,true,true,true,false,false,false,false,false,false,false,false,false,false,false] 8=true)
  (t9:tk ops #[true,true,true,true,true,true,true,true,true,false,false,false,false,false,false,false,false,false,false] 9=true)
  (t10:tk ops #[true,true,true,true,true,true,true,true,true,true,false,false,false,false,false,false,false,false,false] 10=true)
  (t11:tk ops #[true,true,true,true,true,true,true,true,true,true,true,false,false,false,false,false,false,false,false] 11=true)
  (t12:tk ops #[true,true,true,true,true,true,true,true,true,true,true,true,false,false,false,false,false,false,false] 12=true)
  (t15:tk ops #[true,true,true,true,true,true,true,true,true,true,true,true,true,false,false,false,false,false,false] 15=true)
  (r13:Region.ready .any ops #[true,true,true,true,true,true,true,true,true,true,true,true,true,false,false,true,false,false,false]=[13])
  (t14:tk ops #[true,true,true,true,true,true,true,true,true,true,true,true,true,true,false,true,false,false,false] 14=true)
  (t16:tk ops #[true,true,true,true,true,true,true,true,true,true,true,true,true,true,true,true,false,false,false] 16=true)
  (t17:tk ops #[true,true,true,true,true,true,true,true,true,true,true,true,true,true,true,true,true,false,false] 17=true)
  (r18:Region.ready .any ops #[true,true,true,true,true,true,true,true,true,true,true,true,true,true,true,true,true,true,false]=[18])
  (rE:Region.ready .any ops #[true,true,true,true,true,true,true,true,true,true,true,true,true,true,true,true,true,true,true]=[])
  (hb:b.tmps.size=247) (s7:b.tmps[7]?=some (.slice (some ⟨g,o,none⟩) n c)) (s6:b.tmps[6]?=some (.pointer (some ⟨Y,0,none⟩))) (s8:b.tmps[8]?=some (.pointer (some ⟨X,0,none⟩))) (s10:b.tmps[10]?=some (.int .i64 A))
  (hn:10≤n) (hl:n≤5000) (hc:n≤c) (hx:x < 256) (hy:y < 256) (hhh:hh=256 * x+y) (hii:ii < 4294967296) (cx:w1.cell? ⟨g,o+3,none⟩=some (.int .u8 (x:Int))) (cy:w1.cell? ⟨g,o+4,none⟩=some (.int .u8 (y:Int)))
  (hgY:g≠Y) (hXY:X≠Y) (bX:w1.heap[X]?=some (.cells (capC cc) 26 (0,0))) (bY:w1.heap[Y]?=some (.cells (msgC 1 0 0 (.slice none 0 0)) 40 (0,0)))
  (k13:∀ X,Keeps (fun k=>k=Y) w1 X→Calls Tryz.prog 29 #[.slice (some ⟨g,o+5,none⟩) (n - 5) (c - 5)] X fun e w'=>e=.returned (.int .i64 (ii:Int))∧∃ k,w'=X.drewN k)
  (fin:∀ a W8 W9,Fr [109,110,111,112,113,114,115,116,117,118,119,120,121,122,123,124,125,126] b a→Below w1.heap.size w1 W8→Keeps (fun k=>k=Y) W8 W9→W9.heap[Y]?=some (.cells (openMsg 1 (openC A hh ii cc)) 40 (0,0))→W9.heap.size=W8.heap.size→Q .normal a W9) :
  (Code.region id ops true).wp Tryz.prog Q b w1:=by
 obtain ⟨a0,p0,e0,h0'⟩:=o0
 obtain ⟨a1,p1,e1,h1'⟩:=o1
 obtain ⟨a2,p2,e2,h2'⟩:=o2
 obtain ⟨a3,p3,e3,h3'⟩:=o3
 obtain ⟨a4,p4,e4,h4'⟩:=o4
 obtain ⟨a5,p5,e5,h5'⟩:=o5
 obtain ⟨a6,p6,e6,h6'⟩:=o6
 obtain ⟨a7,p7,e7,h7'⟩:=o7
 obtain ⟨a8,p8,e8,h8'⟩:=o8
 obtain ⟨a9,p9,e9,h9'⟩:=o9
 obtain ⟨a10,p10,e10,h10'⟩:=o10
 obtain ⟨a11,p11,e11,h11'⟩:=o11
 obtain ⟨a12,p12,e12,h12'⟩:=o12
 obtain ⟨a13,p13,e13,h13'⟩:=o13
 obtain ⟨a14,p14,e14,h14'⟩:=o14
 obtain ⟨a15,p15,e15,h15'⟩:=o15
 obtain ⟨a16,p16,e16,h16'⟩:=o16
 obtain ⟨a17,p17,e17,h17'⟩:=o17
 obtain ⟨a18,p18,e18,h18'⟩:=o18
 have zg:=World.block_lt_of_cell? w1 _ cx
 simp only at zg
 have zX:=(Array.getElem?_eq_some_iff.1 bX).1
 have hn3:(3:Int) < (n:Int):=by omega
 have hn4:(4:Int) < (n:Int):=by omega
 have hn5:(5:Int)≤(n:Int):=by omega
 have hc5:¬ c=5:=by omega
 refine wp_region_noPanic ?_
 refine wp_region_held (S:=fun W=>Keeps (fun k=>k=Y) w1 W) (by kernel_rfl) ?_
 rw [hsz]
 have hdr:Keeps (fun k=>k=Y) w1 { w1 with drawn:=w1.drawn+1 }:=⟨rfl,rfl,rfl,Nat.le_refl _,fun _ _ _=>rfl⟩
 have f0:Fr [109,110,111,112,113,114,115,116,117,118,119,120,121,122,123,124,125,126] b b:=Fr.refl _ _
 show wpAnyH Tryz.prog .any ops (NoPanic Q) _ (18+1) #[false,false,false,false,false,false,false,false,false,false,false,false,false,false,false,false,false,false,false] _ _
 refine take_slot h0' rfl rfl hns (tk1 t0) (tk2 t0) (v:=(.int .i64 A)) (fun _ _ _ _ h=>h) (fun W _=>op_move _ W _ _ _ rfl (slot_eval (f0.slot (by decide) s10))) hdr ?_
 obtain ⟨A1,hA1⟩:∃ Z,Z=b.put (some 109) (.int .i64 A):=⟨_,rfl⟩
 rw [← hA1]
 have f1:Fr [109,110,111,112,113,114,115,116,117,118,119,120,121,122,123,124,125,126] b A1:=by rw [hA1]; exact f0.put (by decide) _
 have g1_109:A1.tmps[109]?=some (.int .i64 A):=by rw [hA1]; exact slot_same _ (by rw [f0.size,hb]; decide)
 clear hA1
 show wpAnyH Tryz.prog .any ops (NoPanic Q) _ (17+1) #[true,false,false,false,false,false,false,false,false,false,false,false,false,false,false,false,false,false,false] _ _
 refine take_slot h1' rfl rfl hns (tk1 t1) (tk2 t1) (v:=(.slice (some ⟨g,o,none⟩) n c)) (fun _ _ _ _ h=>h) (fun W _=>op_move _ W _ _ _ rfl (slot_eval (f1.slot (by decide) s7))) hdr ?_
 obtain ⟨A2,hA2⟩:∃ Z,Z=A1.put (some 110) (.slice (some ⟨g,o,none⟩) n c):=⟨_,rfl⟩
 rw [← hA2]
 have f2:Fr [109,110,111,112,113,114,115,116,117,118,119,120,121,122,123,124,125,126] b A2:=by rw [hA2]; exact f1.put (by decide) _
 have g2_109:A2.tmps[109]?=some (.int .i64 A):=by rw [hA2,slot_put _ (by decide)]; exact g1_109
 have g2_110:A2.tmps[110]?=some (.slice (some ⟨g,o,none⟩) n c):=by rw [hA2]; exact slot_same _ (by rw [f1.size,hb]; decide)
 clear hA2
 show wpAnyH Tryz.prog .any ops (NoPanic Q) _ (16+1) #[true,true,false,false,false,false,false,false,false,false,false,false,false,false,false,false,false,false,false] _ _
 refine take_slot h2' rfl rfl hns (tk1 t2) (tk2 t2) (v:=(.pointer (some ⟨g,o+3,none⟩))) (fun _ _ _ _ h=>h) (fun W _=>by
  have q:=slot_eval g2_110
  unfold execOp
  simp only [q]
  simp [go_sem,hn3]) hdr ?_
 obtain ⟨A3,hA3⟩:∃ Z,Z=A2.put (some 111) (.pointer (some ⟨g,o+3,none⟩)):=⟨_,rfl⟩
 rw [← hA3]
 have f3:Fr [109,110,111,112,113,114,115,116,117,118,119,120,121,122,123,124,125,126] b A3:=by rw [hA3]; exact f2.put (by decide) _
 have g3_109:A3.tmps[109]?=some (.int .i64 A):=by rw [hA3,slot_put _ (by decide)]; exact g2_109
 have g3_110:A3.tmps[110]?=some (.slice (some ⟨g,o,none⟩) n c):=by rw [hA3,slot_put _ (by decide)]; exact g2_110
 have g3_111:A3.tmps[111]?=some (.pointer (some ⟨g,o+3,none⟩)):=by rw [hA3]; exact slot_same _ (by rw [f2.size,hb]; decide)
 clear hA3
 clear g3_110
 show wpAnyH Tryz.prog .any ops (NoPanic Q) _ (15+1) #[true,true,true,false,false,false,false,false,false,false,false,false,false,false,false,false,false,false,false] _ _
 refine take_slot h3' rfl rfl hns (tk1 t3) (tk2 t3) (v:=(.int .u8 (x:Int))) (fun _ _ _ _ h=>h) (fun W hW=>by
  have q:=slot_eval g3_111
  have q2:W.cell? ⟨g,o+3,none⟩=some (.int .u8 (x:Int)):=by rw [hW.cell ⟨g,o+3,none⟩ zg hgY]; exact cx
  unfold execOp
  simp only [q]
  simp [go_sem,q2]) hdr ?_
 obtain ⟨A4,hA4⟩:∃ Z,Z=A3.put (some 112) (.int .u8 (x:Int)):=⟨_,rfl⟩
 rw [← hA4]
 have f4:Fr [109,110,111,112,113,114,115,116,117,118,119,120,121,122,123,124,125,126] b A4:=by rw [hA4]; exact f3.put (by decide) _
 have g4_109:A4.tmps[109]?=some (.int .i64 A):=by rw [hA4,slot_put _ (by decide)]; exact g3_109
 have g4_111:A4.tmps[111]?=some (.pointer (some ⟨g,o+3,none⟩)):=by rw [hA4,slot_put _ (by decide)]; exact g3_111
 have g4_112:A4.tmps[112]?=some (.int .u8 (x:Int)):=by rw [hA4]; exact slot_same _ (by rw [f3.size,hb]; decide)
 clear hA4
 clear g4_111
 show wpAnyH Tryz.prog .any ops (NoPanic Q) _ (14+1) #[true,true,true,true,false,false,false,false,false,false,false,false,false,false,false,false,false,false,false] _ _
 refine take_slot h4' rfl rfl hns (tk1 t4) (tk2 t4) (v:=(.int .i64 (x:Int))) (fun _ _ _ _ h=>h) (fun W _=>by
  have q:=slot_eval g4_112
  unfold execOp
  simp only [q]
  simp [go_sem]
  rw [IntKind.wrap_i64]
  omega) hdr ?_
 obtain ⟨A5,hA5⟩:∃ Z,Z=A4.put (some 113) (.int .i64 (x:Int)):=⟨_,rfl⟩
 rw [← hA5]
 have f5:Fr [109,110,111,112,113,114,115,116,117,118,119,120,121,122,123,124,125,126] b A5:=by rw [hA5]; exact f4.put (by decide) _
 have g5_109:A5.tmps[109]?=some (.int .i64 A):=by rw [hA5,slot_put _ (by decide)]; exact g4_109
 have g5_112:A5.tmps[112]?=some (.int .u8 (x:Int)):=by rw [hA5,slot_put _ (by decide)]; exact g4_112
 have g5_113:A5.tmps[113]?=some (.int .i64 (x:Int)):=by rw [hA5]; exact slot_same _ (by rw [f4.size,hb]; decide)
 clear hA5
 clear g5_112
 show wpAnyH Tryz.prog .any ops (NoPanic Q) _ (13+1) #[true,true,true,true,true,false,false,false,false,false,false,false,false,false,false,false,false,false,false] _ _
 refine take_slot h5' rfl rfl hns (tk1 t5) (tk2 t5) (v:=(.int .i64 (256 * (x:Int)))) (fun _ _ _ _ h=>h) (fun W _=>by
  have q0:=slot_eval g5_113
  unfold execOp
  simp only [q0]
  simp [go_sem]
  rw [IntKind.wrap_i64] <;> omega) hdr ?_
 obtain ⟨A6,hA6⟩:∃ Z,Z=A5.put (some 114) (.int .i64 (256 * (x:Int))):=⟨_,rfl⟩
 rw [← hA6]
 have f6:Fr [109,110,111,112,113,114,115,116,117,118,119,120,121,122,123,124,125,126] b A6:=by rw [hA6]; exact f5.put (by decide) _
 have g6_109:A6.tmps[109]?=some (.int .i64 A):=by rw [hA6,slot_put _ (by decide)]; exact g5_109
 have g6_113:A6.tmps[113]?=some (.int .i64 (x:Int)):=by rw [hA6,slot_put _ (by decide)]; exact g5_113
 have g6_114:A6.tmps[114]?=some (.int .i64 (256 * (x:Int))):=by rw [hA6]; exact slot_same _ (by rw [f5.size,hb]; decide)
 clear hA6
 clear g6_113
 show wpAnyH Tryz.prog .any ops (NoPanic Q) _ (12+1) #[true,true,true,true,true,true,false,false,false,false,false,false,false,false,false,false,false,false,false] _ _
 refine take_slot h6' rfl rfl hns (tk1 t6) (tk2 t6) (v:=(.slice (some ⟨g,o,none⟩) n c)) (fun _ _ _ _ h=>h) (fun W _=>op_move _ W _ _ _ rfl (slot_eval (f6.slot (by decide) s7))) hdr ?_
 obtain ⟨A7,hA7⟩:∃ Z,Z=A6.put (some 115) (.slice (some ⟨g,o,none⟩) n c):=⟨_,rfl⟩
 rw [← hA7]
 have f7:Fr [109,110,111,112,113,114,115,116,117,118,119,120,121,122,123,124,125,126] b A7:=by rw [hA7]; exact f6.put (by decide) _
 have g7_109:A7.tmps[109]?=some (.int .i64 A):=by rw [hA7,slot_put _ (by decide)]; exact g6_109
 have g7_114:A7.tmps[114]?=some (.int .i64 (256 * (x:Int))):=by rw [hA7,slot_put _ (by decide)]; exact g6_114
 have g7_115:A7.tmps[115]?=some (.slice (some ⟨g,o,none⟩) n c):=by rw [hA7]; exact slot_same _ (by rw [f6.size,hb]; decide)
 clear hA7
 show wpAnyH Tryz.prog .any ops (NoPanic Q) _ (11+1) #[true,true,true,true,true,true,true,false,false,false,false,false,false,false,false,false,false,false,false] _ _
 refine take_slot h7' rfl rfl hns (tk1 t7) (tk2 t7) (v:=(.pointer (some ⟨g,o+4,none⟩))) (fun _ _ _ _ h=>h) (fun W _=>by
  have q:=slot_eval g7_115
  unfold execOp
  simp only [q]
  simp [go_sem,hn4]) hdr ?_
 obtain ⟨A8,hA8⟩:∃ Z,Z=A7.put (some 116) (.pointer (some ⟨g,o+4,none⟩)):=⟨_,rfl⟩
 rw [← hA8]
 have f8:Fr [109,110,111,112,113,114,115,116,117,118,119,120,121,122,123,124,125,126] b A8:=by rw [hA8]; exact f7.put (by decide) _
 have g8_109:A8.tmps[109]?=some (.int .i64 A):=by rw [hA8,slot_put _ (by decide)]; exact g7_109
 have g8_114:A8.tmps[114]?=some (.int .i64 (256 * (x:Int))):=by rw [hA8,slot_put _ (by decide)]; exact g7_114
 have g8_115:A8.tmps[115]?=some (.slice (some ⟨g,o,none⟩) n c):=by rw [hA8,slot_put _ (by decide)]; exact g7_115
 have g8_116:A8.tmps[116]?=some (.pointer (some ⟨g,o+4,none⟩)):=by rw [hA8]; exact slot_same _ (by rw [f7.size,hb]; decide)
 clear hA8
 clear g8_115
 show wpAnyH Tryz.prog .any ops (NoPanic Q) _ (10+1) #[true,true,true,true,true,true,true,true,false,false,false,false,false,false,false,false,false,false,false] _ _
 refine take_slot h8' rfl rfl hns (tk1 t8) (tk2 t8) (v:=(.int .u8 (y:Int))) (fun _ _ _ _ h=>h) (fun W hW=>by
  have q:=slot_eval g8_116
  have q2:W.cell? ⟨g,o+4,none⟩=some (.int .u8 (y:Int)):=by rw [hW.cell ⟨g,o+4,none⟩ zg hgY]; exact cy
  unfold execOp
  simp only [q]
  simp [go_sem,q2]) hdr ?_
 obtain ⟨A9,hA9⟩:∃ Z,Z=A8.put (some 117) (.int .u8 (y:Int)):=⟨_,rfl⟩
 rw [← hA9]
 have f9:Fr [109,110,111,112,113,114,115,116,117,118,119,120,121,122,123,124,125,126] b A9:=by rw [hA9]; exact f8.put (by decide) _
 have g9_109:A9.tmps[109]?=some (.int .i64 A):=by rw [hA9,slot_put _ (by decide)]; exact g8_109
 have g9_114:A9.tmps[114]?=some (.int .i64 (256 * (x:Int))):=by rw [hA9,slot_put _ (by decide)]; exact g8_114
 have g9_116:A9.tmps[116]?=some (.pointer (some ⟨g,o+4,none⟩)):=by rw [hA9,slot_put _ (by decide)]; exact g8_116
 have g9_117:A9.tmps[117]?=some (.int .u8 (y:Int)):=by rw [hA9]; exact slot_same _ (by rw [f8.size,hb]; decide)
 clear hA9
 clear g9_116
 show wpAnyH Tryz.prog .any ops (NoPanic Q) _ (9+1) #[true,true,true,true,true,true,true,true,true,false,false,false,false,false,false,false,false,false,false] _ _
 refine take_slot h9' rfl rfl hns (tk1 t9) (tk2 t9) (v:=(.int .i64 (y:Int))) (fun _ _ _ _ h=>h) (fun W _=>by
  have q:=slot_eval g9_117
  unfold execOp
  simp only [q]
  simp [go_sem]
  rw [IntKind.wrap_i64]
  omega) hdr ?_
 obtain ⟨A10,hA10⟩:∃ Z,Z=A9.put (some 118) (.int .i64 (y:Int)):=⟨_,rfl⟩
 rw [← hA10]
 have f10:Fr [109,110,111,112,113,114,115,116,117,118,119,120,121,122,123,124,125,126] b A10:=by rw [hA10]; exact f9.put (by decide) _
 have g10_109:A10.tmps[109]?=some (.int .i64 A):=by rw [hA10,slot_put _ (by decide)]; exact g9_109
 have g10_114:A10.tmps[114]?=some (.int .i64 (256 * (x:Int))):=by rw [hA10,slot_put _ (by decide)]; exact g9_114
 have g10_117:A10.tmps[117]?=some (.int .u8 (y:Int)):=by rw [hA10,slot_put _ (by decide)]; exact g9_117
 have g10_118:A10.tmps[118]?=some (.int .i64 (y:Int)):=by rw [hA10]; exact slot_same _ (by rw [f9.size,hb]; decide)
 clear hA10
 clear g10_117
 show wpAnyH Tryz.prog .any ops (NoPanic Q) _ (8+1) #[true,true,true,true,true,true,true,true,true,true,false,false,false,false,false,false,false,false,false] _ _
 refine take_slot h10' rfl rfl hns (tk1 t10) (tk2 t10) (v:=(.int .i64 ((hh:Nat):Int))) (fun _ _ _ _ h=>h) (fun W _=>by
  have q0:=slot_eval g10_114
  have q1:=slot_eval g10_118
  unfold execOp
  simp only [q0,q1]
  simp [go_sem]
  rw [IntKind.wrap_i64] <;> omega) hdr ?_
 obtain ⟨A11,hA11⟩:∃ Z,Z=A10.put (some 119) (.int .i64 ((hh:Nat):Int)):=⟨_,rfl⟩
 rw [← hA11]
 have f11:Fr [109,110,111,112,113,114,115,116,117,118,119,120,121,122,123,124,125,126] b A11:=by rw [hA11]; exact f10.put (by decide) _
 have g11_109:A11.tmps[109]?=some (.int .i64 A):=by rw [hA11,slot_put _ (by decide)]; exact g10_109
 have g11_114:A11.tmps[114]?=some (.int .i64 (256 * (x:Int))):=by rw [hA11,slot_put _ (by decide)]; exact g10_114
 have g11_118:A11.tmps[118]?=some (.int .i64 (y:Int)):=by rw [hA11,slot_put _ (by decide)]; exact g10_118
 have g11_119:A11.tmps[119]?=some (.int .i64 ((hh:Nat):Int)):=by rw [hA11]; exact slot_same _ (by rw [f10.size,hb]; decide)
 clear hA11
 clear g11_114 g11_118
 show wpAnyH Tryz.prog .any ops (NoPanic Q) _ (7+1) #[true,true,true,true,true,true,true,true,true,true,true,false,false,false,false,false,false,false,false] _ _
 refine take_slot h11' rfl rfl hns (tk1 t11) (tk2 t11) (v:=(.slice (some ⟨g,o,none⟩) n c)) (fun _ _ _ _ h=>h) (fun W _=>op_move _ W _ _ _ rfl (slot_eval (f11.slot (by decide) s7))) hdr ?_
 obtain ⟨A12,hA12⟩:∃ Z,Z=A11.put (some 120) (.slice (some ⟨g,o,none⟩) n c):=⟨_,rfl⟩
 rw [← hA12]
 have f12:Fr [109,110,111,112,113,114,115,116,117,118,119,120,121,122,123,124,125,126] b A12:=by rw [hA12]; exact f11.put (by decide) _
 have g12_109:A12.tmps[109]?=some (.int .i64 A):=by rw [hA12,slot_put _ (by decide)]; exact g11_109
 have g12_119:A12.tmps[119]?=some (.int .i64 ((hh:Nat):Int)):=by rw [hA12,slot_put _ (by decide)]; exact g11_119
 have g12_120:A12.tmps[120]?=some (.slice (some ⟨g,o,none⟩) n c):=by rw [hA12]; exact slot_same _ (by rw [f11.size,hb]; decide)
 clear hA12
 show wpAnyH Tryz.prog .any ops (NoPanic Q) _ (6+1) #[true,true,true,true,true,true,true,true,true,true,true,true,false,false,false,false,false,false,false] _ _
 refine take_slot h12' rfl rfl hns (tk1 t12) (tk2 t12) (v:=(.slice (some ⟨g,o+5,none⟩) (n - 5) (c - 5))) (fun _ _ _ _ h=>h) (fun W _=>by
  have q:=slot_eval g12_120
  unfold execOp
  simp only [q]
  simp [go_sem,hc5,hn5]) hdr ?_
 obtain ⟨A13,hA13⟩:∃ Z,Z=A12.put (some 121) (.slice (some ⟨g,o+5,none⟩) (n - 5) (c - 5)):=⟨_,rfl⟩
 rw [← hA13]
 have f13:Fr [109,110,111,112,113,114,115,116,117,118,119,120,121,122,123,124,125,126] b A13:=by rw [hA13]; exact f12.put (by decide) _
 have g13_109:A13.tmps[109]?=some (.int .i64 A):=by rw [hA13,slot_put _ (by decide)]; exact g12_109
 have g13_119:A13.tmps[119]?=some (.int .i64 ((hh:Nat):Int)):=by rw [hA13,slot_put _ (by decide)]; exact g12_119
 have g13_120:A13.tmps[120]?=some (.slice (some ⟨g,o,none⟩) n c):=by rw [hA13,slot_put _ (by decide)]; exact g12_120
 have g13_121:A13.tmps[121]?=some (.slice (some ⟨g,o+5,none⟩) (n - 5) (c - 5)):=by rw [hA13]; exact slot_same _ (by rw [f12.size,hb]; decide)
 clear hA13
 clear g13_120
 show wpAnyH Tryz.prog .any ops (NoPanic Q) _ (5+1) #[true,true,true,true,true,true,true,true,true,true,true,true,true,false,false,false,false,false,false] _ _
 refine take_slot h15' rfl rfl hns (tk1 t15) (tk2 t15) (v:=(capV cc)) (fun _ _ _ _ h=>h) (fun W hW=>run_of_loadC (g:=X) (slot_eval (f13.slot (by decide) s8)) (range_of (by rw [hW.block _ zX hXY]; exact bX))) hdr ?_
 obtain ⟨A14,hA14⟩:∃ Z,Z=A13.put (some 124) (capV cc):=⟨_,rfl⟩
 rw [← hA14]
 have f14:Fr [109,110,111,112,113,114,115,116,117,118,119,120,121,122,123,124,125,126] b A14:=by rw [hA14]; exact f13.put (by decide) _
 have g14_109:A14.tmps[109]?=some (.int .i64 A):=by rw [hA14,slot_put _ (by decide)]; exact g13_109
 have g14_119:A14.tmps[119]?=some (.int .i64 ((hh:Nat):Int)):=by rw [hA14,slot_put _ (by decide)]; exact g13_119
 have g14_121:A14.tmps[121]?=some (.slice (some ⟨g,o+5,none⟩) (n - 5) (c - 5)):=by rw [hA14,slot_put _ (by decide)]; exact g13_121
 have g14_124:A14.tmps[124]?=some (capV cc):=by rw [hA14]; exact slot_same _ (by rw [f13.size,hb]; decide)
 clear hA14
 show wpAnyH Tryz.prog .any ops (NoPanic Q) _ (4+1) #[true,true,true,true,true,true,true,true,true,true,true,true,true,false,false,true,false,false,false] _ _
 refine wpAnyH_all r13 (by simp) fun i hi=>?_
 obtain rfl:i=13:=by simpa using hi
 refine op_plain h13' rfl (call_rnum (.tmp 121) _ (slot_eval g14_121) ((k13 _ hdr).mono ?_))
 rintro e w8 ⟨rfl,k,rfl⟩
 have hd8:Below w1.heap.size w1 (({ w1 with drawn:=w1.drawn+1 } : World).drewN k):=below_drewN ((Below.refl _ w1).drew) k
 have hdr8:Keeps (fun k=>k=Y) w1 (({ w1 with drawn:=w1.drawn+1 } : World).drewN k):=Keeps.of_below hd8 _
 refine ⟨_,rfl,hdr8,?_⟩
 show wpAnyH Tryz.prog .any ops (NoPanic Q) _ 4 #[true,true,true,true,true,true,true,true,true,true,true,true,true,true,false,true,false,false,false] (A14.put (some 122) (.int .i64 (ii:Int))) _
 obtain ⟨A15,hA15⟩:∃ Z,Z=A14.put (some 122) (.int .i64 (ii:Int)):=⟨_,rfl⟩
 rw [← hA15]
 have f15:Fr [109,110,111,112,113,114,115,116,117,118,119,120,121,122,123,124,125,126] b A15:=by rw [hA15]; exact f14.put (by decide) _
 have g15_109:A15.tmps[109]?=some (.int .i64 A):=by rw [hA15,slot_put _ (by decide)]; exact g14_109
 have g15_119:A15.tmps[119]?=some (.int .i64 ((hh:Nat):Int)):=by rw [hA15,slot_put _ (by decide)]; exact g14_119
 have g15_121:A15.tmps[121]?=some (.slice (some ⟨g,o+5,none⟩) (n - 5) (c - 5)):=by rw [hA15,slot_put _ (by decide)]; exact g14_121
 have g15_124:A15.tmps[124]?=some (capV cc):=by rw [hA15,slot_put _ (by decide)]; exact g14_124
 have g15_122:A15.tmps[122]?=some (.int .i64 (ii:Int)):=by rw [hA15]; exact slot_same _ (by rw [f14.size,hb]; decide)
 clear hA15
 clear g15_121
 show wpAnyH Tryz.prog .any ops (NoPanic Q) _ (3+1) #[true,true,true,true,true,true,true,true,true,true,true,true,true,true,false,true,false,false,false] _ _
 refine take_slot h14' rfl rfl hns (tk1 t14) (tk2 t14) (v:=(.int .u32 (ii:Int))) (fun _ _ _ _ h=>h) (fun W _=>by
  have q:=slot_eval g15_122
  have i0:(0:Int)≤(ii:Int):=Int.natCast_nonneg _
  have i1:(ii:Int) < 4294967296:=by omega
  unfold execOp
  simp only [q]
  simp [go_sem]
  rw [IntKind.wrap_u32]
  omega) hdr8 ?_
 obtain ⟨A16,hA16⟩:∃ Z,Z=A15.put (some 123) (.int .u32 (ii:Int)):=⟨_,rfl⟩
 rw [← hA16]
 have f16:Fr [109,110,111,112,113,114,115,116,117,118,119,120,121,122,123,124,125,126] b A16:=by rw [hA16]; exact f15.put (by decide) _
 have g16_109:A16.tmps[109]?=some (.int .i64 A):=by rw [hA16,slot_put _ (by decide)]; exact g15_109
 have g16_119:A16.tmps[119]?=some (.int .i64 ((hh:Nat):Int)):=by rw [hA16,slot_put _ (by decide)]; exact g15_119
 have g16_124:A16.tmps[124]?=some (capV cc):=by rw [hA16,slot_put _ (by decide)]; exact g15_124
 have g16_122:A16.tmps[122]?=some (.int .i64 (ii:Int)):=by rw [hA16,slot_put _ (by decide)]; exact g15_122
 have g16_123:A16.tmps[123]?=some (.int .u32 (ii:Int)):=by rw [hA16]; exact slot_same _ (by rw [f15.size,hb]; decide)
 clear hA16
 show wpAnyH Tryz.prog .any ops (NoPanic Q) _ (2+1) #[true,true,true,true,true,true,true,true,true,true,true,true,true,true,true,true,false,false,false] _ _
 refine take_slot h16' rfl rfl hns (tk1 t16) (tk2 t16) (v:=(.agg (openC A hh ii cc))) (fun _ _ _ _ h=>h) (fun W _=>run_of_build4 (slot_eval g16_109) (slot_eval g16_119) (slot_eval g16_123) (slot_eval g16_124)) hdr8 ?_
 obtain ⟨A17,hA17⟩:∃ Z,Z=A16.put (some 125) (.agg (openC A hh ii cc)):=⟨_,rfl⟩
 rw [← hA17]
 have f17:Fr [109,110,111,112,113,114,115,116,117,118,119,120,121,122,123,124,125,126] b A17:=by rw [hA17]; exact f16.put (by decide) _
 have g17_109:A17.tmps[109]?=some (.int .i64 A):=by rw [hA17,slot_put _ (by decide)]; exact g16_109
 have g17_119:A17.tmps[119]?=some (.int .i64 ((hh:Nat):Int)):=by rw [hA17,slot_put _ (by decide)]; exact g16_119
 have g17_124:A17.tmps[124]?=some (capV cc):=by rw [hA17,slot_put _ (by decide)]; exact g16_124
 have g17_122:A17.tmps[122]?=some (.int .i64 (ii:Int)):=by rw [hA17,slot_put _ (by decide)]; exact g16_122
 have g17_123:A17.tmps[123]?=some (.int .u32 (ii:Int)):=by rw [hA17,slot_put _ (by decide)]; exact g16_123
 have g17_125:A17.tmps[125]?=some (.agg (openC A hh ii cc)):=by rw [hA17]; exact slot_same _ (by rw [f16.size,hb]; decide)
 clear hA17
 clear g17_109 g17_119 g17_124 g17_122 g17_123
 show wpAnyH Tryz.prog .any ops (NoPanic Q) _ (1+1) #[true,true,true,true,true,true,true,true,true,true,true,true,true,true,true,true,true,false,false] _ _
 refine take_slot h17' rfl rfl hns (tk1 t17) (tk2 t17) (v:=(.pointer (some ⟨Y,1,none⟩))) (fun _ _ _ _ h=>h) (fun W _=>by
  have q:=slot_eval (f17.slot (by decide) s6)
  unfold execOp
  simp only [q]
  simp [go_sem]) hdr8 ?_
 obtain ⟨A18,hA18⟩:∃ Z,Z=A17.put (some 126) (.pointer (some ⟨Y,1,none⟩)):=⟨_,rfl⟩
 rw [← hA18]
 have f18:Fr [109,110,111,112,113,114,115,116,117,118,119,120,121,122,123,124,125,126] b A18:=by rw [hA18]; exact f17.put (by decide) _
 have g18_125:A18.tmps[125]?=some (.agg (openC A hh ii cc)):=by rw [hA18,slot_put _ (by decide)]; exact g17_125
 have g18_126:A18.tmps[126]?=some (.pointer (some ⟨Y,1,none⟩)):=by rw [hA18]; exact slot_same _ (by rw [f17.size,hb]; decide)
 clear hA18
 obtain ⟨W9,hst,b9,_,z9,k9⟩:=store_open (w:=({ w1 with drawn:=w1.drawn+1 } : World).drewN k) (Y:=Y) (k:=1) (OC.made A hh ii cc) (by rw [hd8.block _ (Array.getElem?_eq_some_iff.1 bY).1]; exact bY)
 show wpAnyH Tryz.prog .any ops (NoPanic Q) _ (0+1) #[true,true,true,true,true,true,true,true,true,true,true,true,true,true,true,true,true,true,false] _ _
 refine wpAnyH_all r18 (by simp) fun i hi=>?_
 obtain rfl:i=18:=by simpa using hi
 refine op_plain h18' rfl ?_
 unfold Oper.wp execOp
 simp only [slot_eval g18_126,slot_eval g18_125,Sem.run_bind,hst,Result.andThen_ok,Sem.run_pure]
 refine ⟨hdr8.trans k9 (fun x _ e=>e),?_⟩
 show wpAnyH Tryz.prog .any ops (NoPanic Q) _ 0 #[true,true,true,true,true,true,true,true,true,true,true,true,true,true,true,true,true,true,true] A18 _
 exact wpAnyH_done rE (NoPanic.normal (fin _ _ W9 f18 hd8 k9 b9 z9)) _
end
end Go.Proofs.YtogbjeaceboemaaGreatDoor
