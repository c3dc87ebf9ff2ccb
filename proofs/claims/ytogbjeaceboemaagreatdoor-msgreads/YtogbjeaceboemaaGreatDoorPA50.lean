import Derived.Test.YtogbjeaceboemaaGreatDoorPA44
import Derived.Test.YtogbjeaceboemaaGreatDoorPA41
import Derived.Test.YtogbjeaceboemaaGreatDoorPA15
import Derived.Test.YtogbjeaceboemaaGreatDoorPA43
import Derived.Test.YtogbjeaceboemaaGreatDoorPA45
import Derived.Test.YtogbjeaceboemaaGreatDoorPA46
import Derived.Test.YtogbjeaceboemaaGreatDoorPA47
import Derived.Test.YtogbjeaceboemaaGreatDoorPA48
import Derived.Test.YtogbjeaceboemaaGreatDoorPA49
import Derived.Test.YtogbjeaceboemaaGreatDoorPA8
namespace Go.Proofs.YtogbjeaceboemaaGreatDoor
open Go.RowKit
set_option maxRecDepth 100000
section
attribute [local go_sem ↓] keptM_load keptM_store keptM_alloc keptM_build
set_option maxHeartbeats 4000000 in
theorem rdec_gC (g o n cp:Nat)(bs:List Nat)(w:World)(hn:bs.length=n)(hn29:29≤n)(hl:n≤5000)(hcap:n≤cp)(h:BRd w (some ⟨g,o,none⟩) bs)(hr:headM bs=(n,0,0,[]))(hk1:bs.getD 18 0=1)(h4:(bs.drop 19).getD 0 0=4)(cc:Cp)(hrc:readC ((bs.drop 19).drop 10)=some cc)(h9:(bs.drop 19).getD 9 0=n - 19 - 10)(sa:Nat)(hsa:sa=256 * (bs.drop 19).getD 1 0+(bs.drop 19).getD 2 0)(h0:sa≠0)(hf:cc.four=false) :
  Calls Tryz.prog 11 #[.slice (some ⟨g,o,none⟩) n cp] w fun e w'=>e=.returned (.tuple #[.agg (openMsg 1 (openC ((sa:Int)) (256 * (bs.drop 19).getD 3 0+(bs.drop 19).getD 4 0) (num fun i=>(bs.drop 19).getD (5+i) 0) cc)),.agg #[.int .i64 0,.int .i64 0,.slice none 0 0]])∧Below w.heap.size w w':=by
 have KH:=read_facts g o n cp 10 bs w 1 hn (by omega) (by omega) hl hcap h hr (by rw [hk1]; rfl)
 have hF:=KH
 obtain ⟨c18,zg,HK,HC,HLT,HNC,H29,hcp19,hz0,hB,HBl,KE⟩:=hF
 unfold NtK at KE
 have KR:=kr_of KH (by omega) _ hrc
 simp only [decV,capV,Option.getD_some,Option.isSome_some] at KR
 have h9i:(((bs.drop 19).getD 9 0:Int) != ((n - 19:Nat):Int) - 10)=false:=by rw [bne_eq_false_iff_eq]; omega
 have KNU:Hid (∀ X,Below w.heap.size w X→Calls Tryz.prog 29 #[.slice (some ⟨g,o+19+5,none⟩) (n - 19 - 5) (cp - 19 - 5)] X fun e w'=>e=.returned (.int .i64 ((num fun i=>(bs.drop 19).getD (5+i) 0:Nat):Int))∧∃ k,w'=X.drewN k):=fun X hX =>
  num_eq g (o+19+5) _ _ _ X (by omega) (fun i _=>getD_lt256 hB.2 _) (fun i hi=>by rw [Nat.add_assoc (o+19) 5 i]; exact HC.out X hX (5+i) (by omega))
 have hnum:(num fun i=>(bs.drop 19).getD (5+i) 0) < 4294967296:=by
  have n0:=HLT.out (5+0)
  have n1:=HLT.out (5+1)
  have n2:=HLT.out (5+2)
  have n3:=HLT.out (5+3)
  unfold num
  dsimp only
  omega
 have HC3:Hid (∀ X,Below w.heap.size w X→X.cell? ⟨g,o+19+3,none⟩=some (.int .u8 ((bs.drop 19).getD 3 0:Int))∧X.cell? ⟨g,o+19+4,none⟩=some (.int .u8 ((bs.drop 19).getD 4 0:Int))):=fun X hX=>⟨HC.out X hX 3 (by omega),HC.out X hX 4 (by omega)⟩
 have hl3:=HLT.out 3
 have hl4:=HLT.out 4
 have h0i:((sa:Int) == 0)=false:=by rw [beq_eq_false_iff_ne]; omega
 clear KE h0 hrc h9 KH h hcap hr hn hk1 hl hn29 hB HBl
 obtain ⟨four,as4,gr,rs,tm,fam,fwd,ll,lt⟩:=cc
 simp only at KR hf ⊢
 subst hf
 generalize (num fun i=>(bs.drop 19).getD (5+i) 0)=ii at *
 generalize (bs.drop 19).getD 3 0=v3 at *
 generalize (bs.drop 19).getD 4 0=v4 at *
 go_enter Tryz.func11,Tryz.ntmps11
 go_wp2_with (refine keptM_alloc_intro _ (run_allocM w) ?_)
 show Calls Tryz.prog 20 #[.slice (some ⟨g,o,none⟩) n cp] (dW w) _
 with_reducible refine HK.out.mono ?_
 rintro e w1 ⟨a9,c9,rfl,HB⟩
 have HH:=hide (h6_of a9 0 c9 HB.out zg c18)
 go_wp2_with fail
 generalize (w1.alloc (.cells #[.int .i64 0,.int .i64 0,.slice a9 0 c9] 38))=W at *
 refine rm_region _ W g o n cp 1 (opi rfl) (opi rfl) (opi rfl) (opi rfl) (opi rfl) (opi rfl) (opi rfl) (opi rfl) (opi rfl) (opi rfl) rfl (by kernel_rfl)
  (by kernel_rfl) (by kernel_rfl) (by kernel_rfl) (by kernel_rfl) (by kernel_rfl) (by kernel_rfl) (by kernel_rfl) (by kernel_rfl) (by kernel_rfl) (by kernel_rfl) (by kernel_rfl)
  rfl rfl (by have:=H29.out.1; omega) (by have:=H29.out.2; omega) (by omega) HH.out.c18 ?_
 intro a W6 hfr h6 h7 bY hb6
 rw [if_neg hcp19] at h7
 obtain ⟨x0,x1,x2,x3,x4,x5,x6,rfl⟩:=hfr.lay9m (by exact (by decide:∀ s∈[39,40,41,42,43,44,45,6,7],s < 247)) h6 h7
 have HD:Hid (D6 w W6 w1.heap.size W.heap.size (msgC 1 0 0 (.slice none 0 0)) (.slice a9 0 c9)):=HH.out.d6 bY hb6
 have y0:W6.cell? ⟨W.heap.size,0,none⟩=some (.int .i64 1):=range_of HD.out.bY 0 _ rfl
 have zY:W.heap.size < W6.heap.size:=HD.out.hs
 have HZ:=hide HH.out.sz
 have HBW2:=hide HH.out.bel
 have hsz:=HH.out.le
 clear hfr h6 h7 bY hb6
 simp only [Act.put,List.setIfInBounds_toArray,List.set_cons_zero,List.set_cons_succ]
 have HMW:Hid (MW w W6):=⟨HD.out.bM,HD.out.bN,HD.out.bel⟩
 have q0:=HC.out W6 HD.out.bel 0 (by have:=HNC.out; omega)
 rw [Nat.add_zero,h4] at q0
 have HBL:=hide HD.out.bel
 generalize n - 19=N at *
 generalize cp - 19=CP at *
 obtain ⟨hN10,hNC,hN5⟩:=HNC.out
 have HN5:=hide hN5
 have hN0i:(0:Int) < (N:Int):=by omega
 have hN10i:(10:Int)≤(N:Int):=by omega
 have hN9i:(9:Int) < (N:Int):=by omega
 have hN5i:(N:Int)≤5000:=by omega
 clear hN5
 by_cases e10:CP=10
 rotate_left
 simp only [if_neg e10] at KR
 rotate_left
 have e10n:N=10:=by omega
 subst e10 e10n
 simp only [Nat.sub_self,↓reduceIte] at KR
 all_goals (
  go_wp2_with fail
  with_reducible refine (KR.out _ HBL.out).mono ?_
  rintro e w2 ⟨rfl,HB2⟩
  have HBA:Hid (Below W6.heap.size W6 (w2.alloc (.cells #[.bool false,.int .i64 as4,.bool gr,.bool rs,.int .i64 tm,.bool fam,.bool fwd,.bool ll,.int .i64 lt] 26))):=HB2.out.alloc HB2.out.size _
  have HMA:=hide (HMW.out.later HBA.out)
  have HBV:Hid (Below w.heap.size w (w2.alloc (.cells #[.bool false,.int .i64 as4,.bool gr,.bool rs,.int .i64 tm,.bool fam,.bool fwd,.bool ll,.int .i64 lt] 26))):=HBL.out.trans (HBA.out.mono HBL.out.size)
  have q9:(w2.alloc (.cells #[.bool false,.int .i64 as4,.bool gr,.bool rs,.int .i64 tm,.bool fam,.bool fwd,.bool ll,.int .i64 lt] 26)).cell? ⟨g,o+19+9,none⟩=some (.int .u8 ((bs.drop 19).getD 9 0:Int)):=HC.out _ HBV.out 9 (by omega)
  have q1:(w2.alloc (.cells #[.bool false,.int .i64 as4,.bool gr,.bool rs,.int .i64 tm,.bool fam,.bool fwd,.bool ll,.int .i64 lt] 26)).cell? ⟨g,o+19+1,none⟩=some (.int .u8 ((bs.drop 19).getD 1 0:Int)):=HC.out _ HBV.out 1 (by omega)
  have q2:(w2.alloc (.cells #[.bool false,.int .i64 as4,.bool gr,.bool rs,.int .i64 tm,.bool fam,.bool fwd,.bool ll,.int .i64 lt] 26)).cell? ⟨g,o+19+2,none⟩=some (.int .u8 ((bs.drop 19).getD 2 0:Int)):=HC.out _ HBV.out 2 (by omega)
  have hl9:=HLT.out 9
  have hl1:=HLT.out 1
  have hl2:=HLT.out 2
  generalize (bs.drop 19).getD 9 0=v9 at *
  generalize (bs.drop 19).getD 1 0=v1 at *
  generalize (bs.drop 19).getD 2 0=v2 at *
  have HZ9:g < (w2.alloc (.cells #[.bool false,.int .i64 as4,.bool gr,.bool rs,.int .i64 tm,.bool fam,.bool fwd,.bool ll,.int .i64 lt] 26)).heap.size:=by have:=HBL.out.size; have:=HBA.out.size; omega
  have HCB:Hid ((w2.alloc (.cells #[.bool false,.int .i64 as4,.bool gr,.bool rs,.int .i64 tm,.bool fam,.bool fwd,.bool ll,.int .i64 lt] 26)).heap[w2.heap.size]?=some (.cells #[.bool false,.int .i64 as4,.bool gr,.bool rs,.int .i64 tm,.bool fam,.bool fwd,.bool ll,.int .i64 lt] 26 (0,0))):=heap_alloc_new w2 _
  have HZY:Hid (W.heap.size < w2.heap.size):=by have:=HB2.out.size; show W.heap.size < w2.heap.size; omega
  have hsai:256 * (v1:Int)+(v2:Int)=(sa:Int):=by omega
  have HSA:=hide hsai
  clear hsai hsa
  have hbd:∀ m,Below ((w2.alloc (.cells #[.bool false,.int .i64 as4,.bool gr,.bool rs,.int .i64 tm,.bool fam,.bool fwd,.bool ll,.int .i64 lt] 26))).heap.size ((w2.alloc (.cells #[.bool false,.int .i64 as4,.bool gr,.bool rs,.int .i64 tm,.bool fam,.bool fwd,.bool ll,.int .i64 lt] 26))) (((w2.alloc (.cells #[.bool false,.int .i64 as4,.bool gr,.bool rs,.int .i64 tm,.bool fam,.bool fwd,.bool ll,.int .i64 lt] 26))).drewN m):=fun m=>below_drewN (Below.refl _ _) m
  have HDD:=hide hbd
  clear hbd
  go_wp2_with fail
  go_quiet (fail)
  rw [HSA.out]
  have HBV2:Hid (Below w.heap.size w ((w2.alloc (.cells #[.bool false,.int .i64 as4,.bool gr,.bool rs,.int .i64 tm,.bool fam,.bool fwd,.bool ll,.int .i64 lt] 26)).drewN nq)):=HBV.out.trans ((HDD.out nq).mono HBV.out.size)
  have HMV:=hide (HMA.out.later (HDD.out nq))
  have HCV:Hid (((w2.alloc (.cells #[.bool false,.int .i64 as4,.bool gr,.bool rs,.int .i64 tm,.bool fam,.bool fwd,.bool ll,.int .i64 lt] 26)).drewN nq).heap[w2.heap.size]?=some (.cells #[.bool false,.int .i64 as4,.bool gr,.bool rs,.int .i64 tm,.bool fam,.bool fwd,.bool ll,.int .i64 lt] 26 (0,0))):=HCB.out
  have HYV:Hid (((w2.alloc (.cells #[.bool false,.int .i64 as4,.bool gr,.bool rs,.int .i64 tm,.bool fam,.bool fwd,.bool ll,.int .i64 lt] 26)).drewN nq).heap[W.heap.size]?=some (.cells (msgC 1 0 0 (.slice none 0 0)) 40 (0,0))):=by
   show _=_
   rw [((HBA.out.trans ((HDD.out nq).mono HBA.out.size))).block _ zY]; exact HD.out.bY
  generalize (w2.alloc (.cells #[.bool false,.int .i64 as4,.bool gr,.bool rs,.int .i64 tm,.bool fam,.bool fwd,.bool ll,.int .i64 lt] 26)).drewN nq=V1 at *
  have b0:V1.cell? ⟨w2.heap.size,0,none⟩=some (.bool false):=range_of HCV.out 0 _ rfl
  have b1:V1.cell? ⟨w2.heap.size,1,none⟩=some (.int .i64 as4):=range_of HCV.out 1 _ rfl
  have zV1:w2.heap.size < V1.heap.size:=(Array.getElem?_eq_some_iff.1 HCV.out).1
  clear q9 q1 q2 h9i
  obtain ⟨c3,c4⟩:=HC3.out _ HBV2.out
  go_wp2_with fail
  have zWw:w.heap.size≤W.heap.size:=by have:=HBW2.out.size; omega
  refine ro_region _ V1 w2.heap.size W.heap.size g (o+19) _ _ v3 v4 (256 * v3+v4) ii _ ⟨false,as4,gr,rs,tm,fam,fwd,ll,lt⟩ (opi rfl) (opi rfl) (opi rfl) (opi rfl) (opi rfl) (opi rfl) (opi rfl) (opi rfl) (opi rfl) (opi rfl) (opi rfl) (opi rfl) (opi rfl) (opi rfl) (opi rfl) (opi rfl) (opi rfl) (opi rfl) (opi rfl) rfl (by kernel_rfl) (by kernel_rfl) (by kernel_rfl) (by kernel_rfl) (by kernel_rfl) (by kernel_rfl) (by kernel_rfl) (by kernel_rfl) (by kernel_rfl) (by kernel_rfl) (by kernel_rfl) (by kernel_rfl) (by kernel_rfl) (by kernel_rfl) (by kernel_rfl) (by kernel_rfl) (by kernel_rfl) (by kernel_rfl) (by kernel_rfl) (by kernel_rfl) (by kernel_rfl)
   rfl rfl rfl rfl rfl (by omega) (by have:=HN5.out; omega) (by omega) hl3 hl4 rfl hnum c3 c4 (by omega) (by have:=HZY.out; omega) HCV.out HYV.out (fun X hX=>KNU.out X (HBV2.out.trans (hX.below _ HBV2.out.size (fun x e=>by omega)))) ?_
  intro a W8 W9 hfr hb8 hk9 b9 z9
  obtain ⟨z0',z1',z2',z3',z4',z5',z6',z7',z8',z9',z10',z11',z12',z13',z14',z15',z16',z17',rfl⟩:=hfr.lay18 (by exact (by decide:∀ s∈[109,110,111,112,113,114,115,116,117,118,119,120,121,122,123,124,125,126],s < 247))
  have keepB:∀ j,j < V1.heap.size→j≠W.heap.size→W9.heap[j]?=V1.heap[j]?:=fun j hj hne=>by rw [hk9.block j (by have:=hb8.size; omega) hne,hb8.block j hj]
  have zWS:w.heap.size+1 < V1.heap.size:=by have:=HZY.out; have:=HBW2.out.size; have:=HZ.out; omega
  have zW2:w.heap.size+1 < W.heap.size:=by have:=HZ.out; omega
  have H9M:Hid (W9.heap[w.heap.size]?=some (.cells zM 40 (0,0))):=by show _=_; rw [keepB _ (by omega) (by omega)]; exact HMV.out.bM
  have H9N:Hid (W9.heap[w.heap.size+1]?=some (.cells #[.int .i64 0,.int .i64 0,.slice none 0 0] 38 (0,0))):=by show _=_; rw [keepB _ (by omega) (by omega)]; exact HMV.out.bN
  have H9Y:=hide b9
  have B9:Hid (Below w.heap.size w W9):=HBV2.out.trans ((hb8.mono HBV2.out.size).trans (hk9.below _ (by have:=HBV2.out.size; have:=hb8.size; omega) (fun x e=>by omega)))
  clear hfr hb8 hk9 b9 z9 keepB c3 c4 b0 b1
  simp only [Act.put,List.setIfInBounds_toArray,List.set_cons_zero,List.set_cons_succ]
  obtain ⟨C,hC⟩:∃ C,C=(openMsg 1 (openC ((sa:Int)) (256 * v3+v4) ii ⟨false,as4,gr,rs,tm,fam,fwd,ll,lt⟩)):=⟨_,rfl⟩
  have HMC:MC C:=by rw [hC]; exact (MC.openMsg 1 (OC.made _ _ _ _))
  obtain ⟨W5,HLD,HST,HX,HG⟩:=rgood_end (C:=C) (Y:=W.heap.size) H9M.out H9N.out (by rw [hC]; exact H9Y.out) HMC B9.out
  obtain ⟨_,r0,r1,r2,f0,f1,f2⟩:=HX.out
  have HCE:=hide hC
  clear hC
  go_wp2_with fail
  refine keptM_load_intro _ (.pointer (some ⟨W.heap.size,0,none⟩)) (.agg C) (by rfl) HLD.out ?_
  go_wp2_with fail
  refine keptM_store_intro _ _ (.pointer (some ⟨w.heap.size,0,none⟩)) (.agg C) (by rfl) (by rfl) HST.out ?_
  go_wp2_with fail
  refine bodyPost_ret (v:=.tuple #[.agg C,.agg #[.int .i64 0,.int .i64 0,.slice none 0 0]]) (res_cells2 Tryz.results11 _ _ w.heap.size (w.heap.size+1) C #[.int .i64 0,.int .i64 0,.slice none 0 0] rfl rfl HG.out.rM HG.out.rN Tryz.underlying40 rfl (by rw [HMC.1]; exact infoM) Tryz.underlying38 rfl infoN) rfl ⟨by rw [HCE.out],HG.out.bel⟩
 )
end
theorem numB2at {l:List Nat}{k:Nat} (h:k+2≤l.length):numB ((l.drop k).take 2)=256 * l.getD k 0+l.getD (k+1) 0:=by
 rw [numB2 (by rw [List.length_drop]; omega),getD_drop,getD_drop,Nat.add_zero]
theorem numB4at {l:List Nat}{k:Nat} (h:k+4≤l.length):numB ((l.drop k).take 4)=num fun i=>l.getD (k+i) 0:=by
 have e:(l.drop k).take 4=[l.getD k 0,l.getD (k+1) 0,l.getD (k+2) 0,l.getD (k+3) 0]:=by
  have h4:4≤(l.drop k).length:=by rw [List.length_drop]; omega
  have g:∀ i,l.getD (k+i) 0=(l.drop k).getD i 0:=fun i=>(getD_drop l k i).symm
  have g0:=g 0
  rw [Nat.add_zero] at g0
  rw [g0,g 1,g 2,g 3]
  match l.drop k,h4 with
  | a :: b :: c :: d :: r,_=>simp
 rw [e,numB_four]
 unfold num
 simp only [Nat.add_zero]
 omega
theorem rread_open (g o n cp:Nat)(bs:List Nat)(w:World)(hn:bs.length=n)(hn29:29≤n)(hl:n≤5000)(hcap:n≤cp)(h:BRd w (some ⟨g,o,none⟩) bs)(hr:headM bs=(n,0,0,[]))(hk1:bs.getD 18 0=1) :
  Calls Tryz.prog 11 #[.slice (some ⟨g,o,none⟩) n cp] w fun e w'=>DecM w w' e (match openR (bs.drop 19) with
  | .inl (k,s,d)=>(pm0,k,s,d)
  | .inr (a,h,i,c)=>(pmOpen a h i c,0,0,[]))∧Below w.heap.size w w':=by
 have hBl:(bs.drop 19).length=n - 19:=by rw [List.length_drop,hn]
 unfold openR
 by_cases h4:(bs.drop 19).getD 0 0≠4
 ·rw [if_pos h4]
  exact (rdec_vers g o n cp bs w hn hn29 hl hcap h hr hk1 h4).mono fun e w' h=>⟨decM_bad h.1,h.2⟩
 ·rw [if_neg h4]
  have h4':(bs.drop 19).getD 0 0=4:=by omega
  cases hrc:readC ((bs.drop 19).drop 10) with
  | none =>
   have:∀ (P:Prop) [Decidable P],(if P then (Sum.inl (2,0,[]):(Nat×Nat×List Nat) ⊕ (Int×Nat×Nat×Cp)) else Sum.inl (2,0,[]))=Sum.inl (2,0,[]):=fun P _=>by split <;> rfl
   simp only [this]
   exact (rdec_nocaps g o n cp bs w hn hn29 hl hcap h hr hk1 h4' hrc).mono fun e w' h=>⟨decM_bad h.1,h.2⟩
  | some cc =>
   by_cases h9:(bs.drop 19).getD 9 0≠(bs.drop 19).length - 10
   ·rw [if_pos h9]
    exact (rdec_badlen g o n cp bs w hn hn29 hl hcap h hr hk1 h4' cc hrc (by rw [← hBl]; exact h9)).mono fun e w' h=>⟨decM_bad h.1,h.2⟩
   ·rw [if_neg h9]
    have h9':(bs.drop 19).getD 9 0=n - 19 - 10:=by rw [← hBl]; omega
    simp only
    rw [numB2at (k:=1) (by omega),numB2at (k:=3) (by omega),numB4at (k:=5) (by omega)]
    obtain ⟨sa,hsa⟩:∃ sa,sa=256 * (bs.drop 19).getD 1 0+(bs.drop 19).getD 2 0:=⟨_,rfl⟩
    rw [← hsa]
    by_cases h0:sa=0
    ·have e1:asB sa cc=false:=by simp [asB,h0]
     rw [e1]
     exact (rdec_as0 g o n cp bs w hn hn29 hl hcap h hr hk1 h4' cc hrc h9' sa hsa h0).mono fun e w' h=>⟨decM_bad h.1,h.2⟩
    ·cases hf:cc.four with
     | false =>
      have e1:asB sa cc=true:=by simp [asB,h0,hf]
      have e2:asV sa cc=(sa:Int):=by simp [asV,e1,hf]
      rw [e1,e2]
      refine (rdec_gC g o n cp bs w hn hn29 hl hcap h hr hk1 h4' cc hrc h9' sa hsa h0 hf).mono ?_
      rintro e w' ⟨rfl,hb⟩
      exact ⟨⟨_,none,0,rfl,MsgOwn.openm _ _ _ _ _ _,fun x=>absurd rfl x⟩,hb⟩
     | true =>
      by_cases h1:(sa:Int)=cc.as4
      ·have e1:asB sa cc=true:=by simp [asB,h0,h1]
       have e2:asV sa cc=cc.as4:=by simp [asV,e1,hf]
       rw [e1,e2]
       refine (rdec_gA g o n cp bs w hn hn29 hl hcap h hr hk1 h4' cc hrc h9' sa hsa h0 hf (.inl h1)).mono ?_
       rintro e w' ⟨rfl,hb⟩
       exact ⟨⟨_,none,0,rfl,MsgOwn.openm _ _ _ _ _ _,fun x=>absurd rfl x⟩,hb⟩
      ·by_cases h2:sa=23456
       ·have e1:asB sa cc=true:=by simp [asB,h2]
        have e2:asV sa cc=cc.as4:=by simp [asV,e1,hf]
        rw [e1,e2]
        refine (rdec_gA g o n cp bs w hn hn29 hl hcap h hr hk1 h4' cc hrc h9' sa hsa h0 hf (.inr ⟨h1,h2⟩)).mono ?_
        rintro e w' ⟨rfl,hb⟩
        exact ⟨⟨_,none,0,rfl,MsgOwn.openm _ _ _ _ _ _,fun x=>absurd rfl x⟩,hb⟩
       ·have e1:asB sa cc=false:=by simp [asB,h0,hf,h1,h2]
        rw [e1]
        exact (rdec_as2 g o n cp bs w hn hn29 hl hcap h hr hk1 h4' cc hrc h9' sa hsa h0 hf h1 h2).mono fun e w' h=>⟨decM_bad h.1,h.2⟩
theorem rread_up (g o n cp:Nat)(bs:List Nat)(w:World)(hn:bs.length=n)(hn23:23≤n)(hl:n≤5000)(hcap:n≤cp)(h:BRd w (some ⟨g,o,none⟩) bs)(hr:headM bs=(n,0,0,[]))(hk2:bs.getD 18 0=2) :
  Calls Tryz.prog 11 #[.slice (some ⟨g,o,none⟩) n cp] w fun e w'=>DecM w w' e (match upR (bs.drop 19) with
  | .inl (k,s,d)=>(pm0,k,s,d)
  | .inr (G,N,r)=>(pmUp G N r,0,0,[]))∧Below w.heap.size w w':=by
 have hBl:(bs.drop 19).length=n - 19:=by rw [List.length_drop,hn]
 have good:∀ {e:Ending}{w':World}{P Q:List (Nat×Nat)}{r:Option At},(∃ v u A,e=.returned (.tuple #[.agg (updMsg 2 (updC v A u)),.agg #[.int .i64 0,.int .i64 0,.slice none 0 0]])∧OwnX w.heap.size P Q v u A r w')→DecM w w' e (pmUp P Q r,0,0,[]):=by
  rintro e w' P Q r ⟨v,u,A,rfl,hx⟩
  exact ⟨_,none,0,rfl,MsgOwn.upd hx,fun x=>absurd rfl x⟩
 obtain ⟨G,hG⟩:∃ G,G=256 * (bs.drop 19).getD 0 0+(bs.drop 19).getD 1 0:=⟨_,rfl⟩
 by_cases hu:n - 19 < G+4
 ·rw [upR_first (by omega) (by rw [← hG,hBl]; exact hu)]
  exact (rdec_u1 g o n cp bs w hn hn23 hl hcap h hr hk2 G hG hu).mono fun e w' h=>⟨decM_bad h.1,h.2⟩
 ·obtain ⟨A,hA⟩:∃ A,A=256 * (bs.drop 19).getD (2+G) 0+(bs.drop 19).getD (3+G) 0:=⟨_,rfl⟩
  have hu1:G+4≤n - 19:=by omega
  rw [upR_cut hG hA (by rw [hBl]; exact hu1),hBl]
  by_cases hu2:n - 19 < G+4+A
  ·rw [if_pos hu2]
   exact (rdec_u2 g o n cp bs w hn hn23 hl hcap h hr hk2 G hG A hA hu1 hu2).mono fun e w' h=>⟨decM_bad h.1,h.2⟩
  ·rw [if_neg hu2]
   have hu3:G+4+A≤n - 19:=by omega
   cases h1:pfxB (((bs.drop 19).drop 2).take G) with
   | none =>
    exact (rdec_u3a g o n cp bs w hn hn23 hl hcap h hr hk2 G hG A hA hu1 hu3 _ _ _ _ rfl rfl rfl rfl (by rw [h1]; rfl)).mono fun e w' h=>⟨decM_bad h.1,h.2⟩
   | some P =>
    cases h2:pfxB ((bs.drop 19).drop (G+4+A)) with
    | none =>
     exact (rdec_u3b g o n cp bs w hn hn23 hl hcap h hr hk2 G hG A hA hu1 hu3 _ _ _ _ rfl rfl rfl rfl (by rw [h1]; rfl) (by rw [h2]; rfl)).mono fun e w' h=>⟨decM_bad h.1,h.2⟩
    | some Q =>
     simp only
     have p1:(pfxB (((bs.drop 19).drop 2).take G)).getD []=P:=by rw [h1]; rfl
     have p2:(pfxB (((bs.drop 19).drop 2).take G)).isSome=true:=by rw [h1]; rfl
     have p3:(pfxB ((bs.drop 19).drop (G+4+A))).getD []=Q:=by rw [h2]; rfl
     have p4:(pfxB ((bs.drop 19).drop (G+4+A))).isSome=true:=by rw [h2]; rfl
     have hAl:(((bs.drop 19).drop (4+G)).take A).length=A:=by rw [List.length_take,List.length_drop,hBl]; omega
     have hA0:((bs.drop 19).drop (4+G)).take A=[]↔A=0:=by rw [← List.length_eq_zero_iff,hAl]
     by_cases hQ0:Q=[]
     ·by_cases hAz:A=0
      ·rw [if_pos ⟨hQ0,hA0.2 hAz⟩]
       exact (rdec_u4 g o n cp bs w hn hn23 hl hcap h hr hk2 G hG A hA hu1 hu3 P Q p1 p2 p3 p4 hQ0 hAz).mono fun e w' h=>⟨good h.1,h.2⟩
      ·rw [if_neg (fun x=>hAz (hA0.1 x.2))]
       cases h6:readA (((bs.drop 19).drop (4+G)).take A) with
       | inl x =>
        obtain ⟨k0,s,d⟩:=x
        exact (rdec_u5b g o n cp bs w hn hn23 hl hcap h hr hk2 G hG A hA hu1 hu3 P Q p1 p2 p3 p4 hQ0 (by omega) k0 s d h6).mono fun e w' h=>⟨decM_bad h.1,h.2⟩
       | inr b =>
        simp only
        rw [if_pos hQ0]
        subst hQ0
        exact (rdec_u6 g o n cp bs w hn hn23 hl hcap h hr hk2 G hG A hA hu1 hu3 P [] p1 p2 p3 p4 rfl (by omega) b h6).mono fun e w' h=>⟨good h.1,h.2⟩
     ·rw [if_neg (fun x=>hQ0 x.1)]
      cases h6:readA (((bs.drop 19).drop (4+G)).take A) with
      | inl x =>
       obtain ⟨k0,s,d⟩:=x
       exact (rdec_u5a g o n cp bs w hn hn23 hl hcap h hr hk2 G hG A hA hu1 hu3 P Q p1 p2 p3 p4 hQ0 k0 s d h6).mono fun e w' h=>⟨decM_bad h.1,h.2⟩
      | inr b =>
       simp only
       rw [if_neg hQ0]
       exact (rdec_u7 g o n cp bs w hn hn23 hl hcap h hr hk2 G hG A hA hu1 hu3 P Q p1 p2 p3 p4 hQ0 b h6).mono fun e w' h=>⟨good h.1,h.2⟩
theorem rread_any (a:Option Addr)(cp n:Nat)(bs:List Nat)(w:World)(hn:bs.length=n)(hl:n≤5000)(hcap:n≤cp)(h:BRd w a bs) :
  Calls Tryz.prog 11 #[.slice a n cp] w fun e w'=>DecM w w' e (readM bs)∧Below w.heap.size w w':=by
 rcases headM_cases bs with ⟨k,s,d,hh,hk⟩ | ⟨h19,hh⟩ | ⟨h19,hh,hm,hm2,hk,hl1,hl2⟩
 ·rw [readM_bad hh hk]
  exact (rdec_bad a cp n bs w hn (by omega) (by omega) h k s d hh hk).mono fun e w' h=>⟨decM_bad h.1,h.2⟩
 ·rw [readM_size hh (.inl rfl)]
  exact (rdec_size a cp n bs w hn (by omega) (by omega) h 0 hh (by omega) (.inl rfl)).mono fun e w' h=>⟨decM_bad h.1,h.2⟩
 ·by_cases hz:hdSize bs=bs.length
  ·obtain ⟨g,o,rfl,_⟩:=h.1.2 (by omega)
   rw [hz] at hh
   have hh':headM bs=(n,0,0,[]):=by rw [hh,hn]
   rcases hk with hk | hk | hk | hk
   ·rw [readM_open hh (by omega) hk]
    rw [hk] at hl1
    have hl3:29≤hdSize bs:=hl1
    exact rread_open g o n cp bs w hn (by omega) hl hcap h hh' hk
   ·rw [readM_up hh (by omega) hk]
    rw [hk] at hl1
    have hl3:23≤hdSize bs:=hl1
    exact rread_up g o n cp bs w hn (by omega) hl hcap h hh' hk
   ·rw [readM_note hh (by omega) hk]
    rw [hk] at hl1
    have hl3:21≤hdSize bs:=hl1
    refine (rdec_note g o n cp bs w hn (by omega) hl hcap h hh' hk).mono ?_
    rintro e w' ⟨⟨a8,c8,rfl,ho⟩,hb⟩
    have hd:(bs.drop 21).length=n - 19 - 2:=by rw [List.length_drop]; omega
    rw [← hd] at ho ⊢
    exact ⟨⟨_,none,0,rfl,MsgOwn.note ho,fun x=>absurd rfl x⟩,hb⟩
   ·rw [readM_alive hh (by omega) hk]
    refine (rdec_alive g o n cp bs w hn (by omega) hl hcap h hh' hk).mono ?_
    rintro e w' ⟨rfl,hb⟩
    exact ⟨⟨_,none,0,rfl,MsgOwn.alive _ _,fun x=>absurd rfl x⟩,hb⟩
  ·rw [readM_size hh (.inr hz)]
   exact (rdec_size a cp n bs w hn (by omega) (by omega) h _ hh (by omega) (.inr (by omega))).mono fun e w' h=>⟨decM_bad h.1,h.2⟩
section
attribute [local go_sem ↓] keptM_load keptM_store keptM_alloc
set_option maxHeartbeats 4000000 in
theorem mreads_walk (b0:Option Addr)(n c0:Nat)(W:World)(p:PM)(kc ks:Nat)(d:List Nat)(hn:n≤5000)(hp:PMok p)(hd:∀ x∈d,x < 256)(hdl:d.length≤5001)
  (KD:Hid (Calls Tryz.prog 10 #[.slice b0 n c0] W fun e w'=>DecM W w' e (p,kc,ks,d)∧Below W.heap.size W w'))
  (KR:Hid (∀ X,Below W.heap.size W X→Calls Tryz.prog 11 #[.slice b0 n c0] X fun e w'=>DecM X w' e (p,kc,ks,d)∧Below X.heap.size X w'))
  (KA:Hid (∀ X,Below W.heap.size W X→Calls Tryz.prog 9 #[] X fun e w'=>e=.returned (.bool true)∧Below X.heap.size X w')) :
  Calls Tryz.prog 3 #[.slice b0 n c0] W fun e W'=>e=.returned (.bool true)∧Below W.heap.size W W':=by
 have hi:decide ((5000:Int) < (n:Int))=false:=decide_eq_false (by omega)
 have HP:=hide hp
 have HNB:Hid (∀ (X:World) (B:Nat) a c,(d≠[]→X.ownsRow B 5 1 (.slice a d.length c) d.length (bcells d))→BRd X a d):=fun X B a c h=>decM_note hd hdl h
 have HSN:Hid (∀ X a1 c1 a2 c2,BRd X a1 d→BRd X a2 d→Calls Tryz.prog 12 #[.agg #[.int .i64 (kc:Int),.int .i64 (ks:Int),.slice a1 d.length c1],.agg #[.int .i64 (kc:Int),.int .i64 (ks:Int),.slice a2 d.length c2]] X fun e w'=>e=.returned (.bool true)∧Below X.heap.size X w'):=fun X a1 c1 a2 c2 h1 h2=>by
  refine (samenote_any (kc:Int) (ks:Int) (kc:Int) (ks:Int) a1 a2 c1 c2 d d X (by omega) h1 h2).mono ?_
  rintro e w' ⟨rfl,hb⟩
  exact ⟨ret_bool (by simp),hb⟩
 clear hn hp hd hdl
 unfold DecM at KD KR
 simp only at KD KR
 generalize d.length=dl at *
 go_enter Tryz.func3,Tryz.ntmps3
 go_wp2_with fail
 refine KD.out.mono ?_
 rintro e w1 ⟨⟨C1,a1,c1,rfl,ho1,hd1⟩,hb1⟩
 have HM1:=hide ho1
 have HD1:=hide hd1
 have B1:=hide hb1
 obtain ⟨X1,X3,HRA,hX1,HST,HX3,HLB⟩:=law_boxes w1 (MC.own ho1) (kc:Int) (ks:Int) a1 dl c1
 have hX1s:=hX1
 clear ho1 hd1 hb1
 obtain ⟨zx3,r0,r1,r2,f0,f1,f2⟩:=HX3.out
 go_wp2_with (first | (refine keptM_alloc_intro _ HRA.out ?_; rw [hX1s] at *) | (refine keptM_store_intro _ _ (.pointer (some ⟨w1.heap.size,0,none⟩)) (.agg C1) (by rfl) (by rfl) HST.out ?_))
 generalize ((X3.setCell ⟨w1.heap.size+1,0,none⟩ (.int .i64 (kc:Int))).setCell ⟨w1.heap.size+1,1,none⟩ (.int .i64 (ks:Int))).setCell ⟨w1.heap.size+1,2,none⟩ (.slice a1 dl c1)=V1 at *
 have BV1:Hid (Below W.heap.size W V1):=B1.out.trans (HLB.out.bel.mono B1.out.size)
 clear HRA hX1 hX1s HST HX3 zx3 r0 r1 r2 f0 f1 f2
 refine (KR.out V1 BV1.out).mono ?_
 rintro e w2 ⟨⟨C2,a2,c2,rfl,ho2,hd2⟩,hb2⟩
 have HM2:=hide ho2
 have HD2:=hide hd2
 have B2:=hide hb2
 obtain ⟨Y1,Y3,HRA,hX1,HST,HX3,HLC⟩:=law_boxes w2 (MC.own ho2) (kc:Int) (ks:Int) a2 dl c2
 have hX1s:=hX1
 clear ho2 hd2 hb2
 obtain ⟨zx3,r0,r1,r2,f0,f1,f2⟩:=HX3.out
 go_wp2_with (first | (refine keptM_alloc_intro _ HRA.out ?_; rw [hX1s] at *) | (refine keptM_store_intro _ _ (.pointer (some ⟨w2.heap.size,0,none⟩)) (.agg C2) (by rfl) (by rfl) HST.out ?_))
 generalize ((Y3.setCell ⟨w2.heap.size+1,0,none⟩ (.int .i64 (kc:Int))).setCell ⟨w2.heap.size+1,1,none⟩ (.int .i64 (ks:Int))).setCell ⟨w2.heap.size+1,2,none⟩ (.slice a2 dl c2)=V2 at *
 have BVV:Hid (Below V1.heap.size V1 V2):=B2.out.trans (HLC.out.bel.mono B2.out.size)
 have BV2:Hid (Below W.heap.size W V2):=BV1.out.trans (BVV.out.mono BV1.out.size)
 have HLB2:=hide (HLB.out.later BVV.out)
 clear HRA hX1 hX1s HST HX3 zx3 r0 r1 r2 f0 f1 f2
 refine (KA.out V2 BV2.out).mono ?_
 rintro e w3 ⟨rfl,hb3⟩
 have B3:=hide hb3
 clear hb3
 have HLB3:=hide (HLB2.out.later B3.out)
 have HLC3:=hide (HLC.out.later B3.out)
 have B13:Hid (Below w1.heap.size w1 w3):=HLB3.out.bel
 have B23:Hid (Below w2.heap.size w2 w3):=HLC3.out.bel
 have KS:=hide (HSN.out w3 a1 c1 a2 c2 ((HNB.out w1 _ a1 c1 HD1.out).below B13.out) ((HNB.out w2 _ a2 c2 HD2.out).below B23.out))
 have g0:w3.cell? ⟨w1.heap.size+1,0,none⟩=some (.int .i64 (kc:Int)):=range_of HLB3.out.bN 0 _ rfl
 have g1:w3.cell? ⟨w1.heap.size+1,1,none⟩=some (.int .i64 (ks:Int)):=range_of HLB3.out.bN 1 _ rfl
 have g2:w3.cell? ⟨w1.heap.size+1,2,none⟩=some (.slice a1 dl c1):=range_of HLB3.out.bN 2 _ rfl
 have k0:w3.cell? ⟨w2.heap.size+1,0,none⟩=some (.int .i64 (kc:Int)):=range_of HLC3.out.bN 0 _ rfl
 have k1:w3.cell? ⟨w2.heap.size+1,1,none⟩=some (.int .i64 (ks:Int)):=range_of HLC3.out.bN 1 _ rfl
 have k2:w3.cell? ⟨w2.heap.size+1,2,none⟩=some (.slice a2 dl c2):=range_of HLC3.out.bN 2 _ rfl
 have z1:w1.heap.size+1 < w3.heap.size:=(Array.getElem?_eq_some_iff.1 HLB3.out.bN).1
 have z2:w2.heap.size+1 < w3.heap.size:=(Array.getElem?_eq_some_iff.1 HLC3.out.bN).1
 go_wp2_with fail
 with_reducible refine KS.out.mono ?_
 rintro e w4 ⟨rfl,hb4⟩
 have B4:=hide hb4
 clear hb4
 have HLB4:=hide (HLB3.out.later B4.out)
 have HLC4:=hide (HLC3.out.later B4.out)
 have hMC1:=MC.own HM1.out
 have hMC2:=MC.own HM2.out
 have HL1:Hid ((Instr.loadAt 40 (.pointer (some ⟨w1.heap.size,0,none⟩))).run Tryz.prog w4=.ok (.agg C1) w4):=run_loadM (range_of HLB4.out.bM) hMC1
 have HL2:Hid ((Instr.loadAt 40 (.pointer (some ⟨w2.heap.size,0,none⟩))).run Tryz.prog w4=.ok (.agg C2) w4):=run_loadM (range_of HLC4.out.bM) hMC2
 have KM:=hide (samemsg_any HP.out (HM1.out.later HLB4.out.bel) (HM2.out.later HLC4.out.bel))
 clear g0 g1 g2 k0 k1 k2 hMC1 hMC2
 go_wp2_with (first | (refine keptM_load_intro _ (.pointer (some ⟨w1.heap.size,0,none⟩)) (.agg C1) (by rfl) HL1.out ?_) | (refine keptM_load_intro _ (.pointer (some ⟨w2.heap.size,0,none⟩)) (.agg C2) (by rfl) HL2.out ?_))
 with_reducible refine KM.out.mono ?_
 rintro e w5 ⟨rfl,hb5⟩
 have B5:Hid (Below W.heap.size W w5):=BV2.out.trans ((B3.out.trans ((B4.out.trans (hb5.mono B4.out.size)).mono B3.out.size)).mono BV2.out.size)
 clear hb5
 go_wp2
 go_ret
 exact ⟨rfl,B5.out⟩
end
theorem mreads_long (b0:Option Addr)(n c0:Nat)(W:World)(hS:SaidM W)(hn:5000 < n):Calls Tryz.prog 3 #[.slice b0 n c0] W fun e W'=>e=.returned (.bool true)∧Below W.heap.size W W':=by
 have hi:(5000:Int) < (n:Int):=by omega
 have KA:=hide (answers_any W hS)
 clear hS hn
 go_enter Tryz.func3,Tryz.ntmps3
 go_wp2_with fail
 with_reducible refine KA.out.mono ?_
 rintro e w1 ⟨rfl,hb⟩
 have HB:=hide hb
 clear hb
 go_wp2
 go_ret
 exact ⟨rfl,HB.out⟩
theorem msgReads_walk (b0:Option Addr)(c0:Nat)(bs:List Nat)(W:World)(hS:SaidM W)(hA:Said W)(hc:bs.length≤c0)(hr:BRd W b0 bs):Calls Tryz.prog 3 #[.slice b0 bs.length c0] W fun e W'=>e=.returned (.bool true)∧Below W.heap.size W W':=by
 by_cases hl:5000 < bs.length
 ·exact mreads_long b0 bs.length c0 W hS hl
 ·have hl5:bs.length≤5000:=by omega
  obtain ⟨hp,hd,hdl⟩:=readM_ok hr.2 hl5
  exact mreads_walk b0 bs.length c0 W (readM bs).1 (readM bs).2.1 (readM bs).2.2.1 (readM bs).2.2.2 hl5 hp hd hdl (mdecode_any b0 c0 _ bs W rfl hl5 hc hr hS hA) (fun X hX=>rread_any b0 c0 _ bs X rfl hl5 hc (hr.below hX)) (fun X hX=>answers_any X (hS.below hX))
end Go.Proofs.YtogbjeaceboemaaGreatDoor
