import Derived.Test.YtogbjeaceboemaaGreatDoorPA42
namespace Go.Proofs.YtogbjeaceboemaaGreatDoor
open Go.RowKit
set_option maxRecDepth 100000
section
attribute [local go_sem ↓] keptM_load keptM_store keptM_alloc keptM_build
set_option maxHeartbeats 4000000 in
theorem rdec_as0 (g o n cp:Nat)(bs:List Nat)(w:World)(hn:bs.length=n)(hn29:29≤n)(hl:n≤5000)(hcap:n≤cp)(h:BRd w (some ⟨g,o,none⟩) bs)(hr:headM bs=(n,0,0,[]))(hk1:bs.getD 18 0=1)(h4:(bs.drop 19).getD 0 0=4)(cc:Cp)(hrc:readC ((bs.drop 19).drop 10)=some cc)(h9:(bs.drop 19).getD 9 0=n - 19 - 10)(sa:Nat)(hsa:sa=256 * (bs.drop 19).getD 1 0+(bs.drop 19).getD 2 0)(h0:sa=0) :
  Calls Tryz.prog 11 #[.slice (some ⟨g,o,none⟩) n cp] w fun e w'=>BadIs w w' e 2 2 []∧Below w.heap.size w w':=by
 have KH:=read_facts g o n cp 10 bs w 1 hn (by omega) (by omega) hl hcap h hr (by rw [hk1]; rfl)
 have hF:=KH
 obtain ⟨c18,zg,HK,HC,HLT,HNC,H29,hcp19,hz0,hB,HBl,KE⟩:=hF
 unfold NtK at KE
 have KR:=kr_of KH (by omega) _ hrc
 simp only [decV,capV,Option.getD_some,Option.isSome_some] at KR
 have h9i:(((bs.drop 19).getD 9 0:Int) != ((n - 19:Nat):Int) - 10)=false:=by rw [bne_eq_false_iff_eq]; omega
 have h0i:((sa:Int) == 0)=true:=by rw [h0]; rfl
 clear hrc h9 KH h hcap hr hn hk1 hl hn29 hB HBl
 unfold BadIs NoteIs
 obtain ⟨four,as4,gr,rs,tm,fam,fwd,ll,lt⟩:=cc
 simp only at KR
 go_enter Tryz.func11,Tryz.ntmps11
 go_wp2_with (refine keptM_alloc_intro _ (run_allocM w) ?_)
 show Calls Tryz.prog 20 #[.slice (some ⟨g,o,none⟩) n cp] (dW w) _
 with_reducible refine HK.out.mono ?_
 rintro e w1 ⟨a9,c9,rfl,HB⟩
 have HH:=hide (h6_of a9 0 c9 HB.out zg c18)
 go_wp2_with fail
 generalize (w1.alloc (.cells #[.int .i64 0,.int .i64 0,.slice a9 0 c9] 38))=W at *
 refine rm_region _ W g o n cp 1 (opi rfl) (opi rfl) (opi rfl) (opi rfl) (opi rfl) (opi rfl) (opi rfl) (opi rfl) (opi rfl) (opi rfl) rfl (by kernel_rfl)
  (by kernel_rfl) (by kernel_rfl) (by kernel_rfl) (by kernel_rfl) (by kernel_rfl) (by kernel_rfl) (by kernel_rfl) (by kernel_rfl) (by kernel_rfl) (by kernel_rfl) (by kernel_rfl)
  rfl rfl (by have:=H29.out.1; omega) (by have:=H29.out.2; omega) (by omega) HH.out.c18 ?_
 intro a W6 hfr h6 h7 bY hb6
 rw [if_neg hcp19] at h7
 obtain ⟨x0,x1,x2,x3,x4,x5,x6,rfl⟩:=hfr.lay9m (by exact (by decide:∀ s∈[39,40,41,42,43,44,45,6,7],s < 247)) h6 h7
 have HD:Hid (D6 w W6 w1.heap.size W.heap.size (msgC 1 0 0 (.slice none 0 0)) (.slice a9 0 c9)):=HH.out.d6 bY hb6
 have y0:W6.cell? ⟨W.heap.size,0,none⟩=some (.int .i64 1):=range_of HD.out.bY 0 _ rfl
 have zY:W.heap.size < W6.heap.size:=HD.out.hs
 have HZ:=hide HH.out.sz
 have HBW2:=hide HH.out.bel
 have hsz:=HH.out.le
 clear hfr h6 h7 bY hb6
 simp only [Act.put,List.setIfInBounds_toArray,List.set_cons_zero,List.set_cons_succ]
 have HMW:Hid (MW w W6):=⟨HD.out.bM,HD.out.bN,HD.out.bel⟩
 have q0:=HC.out W6 HD.out.bel 0 (by have:=HNC.out; omega)
 rw [Nat.add_zero,h4] at q0
 have HBL:=hide HD.out.bel
 generalize n - 19=N at *
 generalize cp - 19=CP at *
 obtain ⟨hN10,hNC,hN5⟩:=HNC.out
 have HN5:=hide hN5
 have hN0i:(0:Int) < (N:Int):=by omega
 have hN10i:(10:Int)≤(N:Int):=by omega
 have hN9i:(9:Int) < (N:Int):=by omega
 have hN5i:(N:Int)≤5000:=by omega
 clear hN5
 by_cases e10:CP=10
 rotate_left
 simp only [if_neg e10] at KR
 rotate_left
 have e10n:N=10:=by omega
 subst e10 e10n
 simp only [Nat.sub_self,↓reduceIte] at KR
 all_goals (
  go_wp2_with fail
  with_reducible refine (KR.out _ HBL.out).mono ?_
  rintro e w2 ⟨rfl,HB2⟩
  have HBA:Hid (Below W6.heap.size W6 (w2.alloc (.cells #[.bool four,.int .i64 as4,.bool gr,.bool rs,.int .i64 tm,.bool fam,.bool fwd,.bool ll,.int .i64 lt] 26))):=HB2.out.alloc HB2.out.size _
  have HMA:=hide (HMW.out.later HBA.out)
  have HBV:Hid (Below w.heap.size w (w2.alloc (.cells #[.bool four,.int .i64 as4,.bool gr,.bool rs,.int .i64 tm,.bool fam,.bool fwd,.bool ll,.int .i64 lt] 26))):=HBL.out.trans (HBA.out.mono HBL.out.size)
  have q9:(w2.alloc (.cells #[.bool four,.int .i64 as4,.bool gr,.bool rs,.int .i64 tm,.bool fam,.bool fwd,.bool ll,.int .i64 lt] 26)).cell? ⟨g,o+19+9,none⟩=some (.int .u8 ((bs.drop 19).getD 9 0:Int)):=HC.out _ HBV.out 9 (by omega)
  have q1:(w2.alloc (.cells #[.bool four,.int .i64 as4,.bool gr,.bool rs,.int .i64 tm,.bool fam,.bool fwd,.bool ll,.int .i64 lt] 26)).cell? ⟨g,o+19+1,none⟩=some (.int .u8 ((bs.drop 19).getD 1 0:Int)):=HC.out _ HBV.out 1 (by omega)
  have q2:(w2.alloc (.cells #[.bool four,.int .i64 as4,.bool gr,.bool rs,.int .i64 tm,.bool fam,.bool fwd,.bool ll,.int .i64 lt] 26)).cell? ⟨g,o+19+2,none⟩=some (.int .u8 ((bs.drop 19).getD 2 0:Int)):=HC.out _ HBV.out 2 (by omega)
  have hl9:=HLT.out 9
  have hl1:=HLT.out 1
  have hl2:=HLT.out 2
  generalize (bs.drop 19).getD 9 0=v9 at *
  generalize (bs.drop 19).getD 1 0=v1 at *
  generalize (bs.drop 19).getD 2 0=v2 at *
  have HZ9:g < (w2.alloc (.cells #[.bool four,.int .i64 as4,.bool gr,.bool rs,.int .i64 tm,.bool fam,.bool fwd,.bool ll,.int .i64 lt] 26)).heap.size:=by have:=HBL.out.size; have:=HBA.out.size; omega
  have HCB:Hid ((w2.alloc (.cells #[.bool four,.int .i64 as4,.bool gr,.bool rs,.int .i64 tm,.bool fam,.bool fwd,.bool ll,.int .i64 lt] 26)).heap[w2.heap.size]?=some (.cells #[.bool four,.int .i64 as4,.bool gr,.bool rs,.int .i64 tm,.bool fam,.bool fwd,.bool ll,.int .i64 lt] 26 (0,0))):=heap_alloc_new w2 _
  have HZY:Hid (W.heap.size < w2.heap.size):=by have:=HB2.out.size; show W.heap.size < w2.heap.size; omega
  have hsai:256 * (v1:Int)+(v2:Int)=(sa:Int):=by omega
  have HSA:=hide hsai
  clear hsai hsa
  have hbd:∀ m,Below ((w2.alloc (.cells #[.bool four,.int .i64 as4,.bool gr,.bool rs,.int .i64 tm,.bool fam,.bool fwd,.bool ll,.int .i64 lt] 26))).heap.size ((w2.alloc (.cells #[.bool four,.int .i64 as4,.bool gr,.bool rs,.int .i64 tm,.bool fam,.bool fwd,.bool ll,.int .i64 lt] 26))) (((w2.alloc (.cells #[.bool four,.int .i64 as4,.bool gr,.bool rs,.int .i64 tm,.bool fam,.bool fwd,.bool ll,.int .i64 lt] 26))).drewN m):=fun m=>below_drewN (Below.refl _ _) m
  have HDD:=hide hbd
  clear hbd
  go_wp2_with fail
  go_quiet (fail)
  rw [HSA.out]
  have HBV2:Hid (Below w.heap.size w ((w2.alloc (.cells #[.bool four,.int .i64 as4,.bool gr,.bool rs,.int .i64 tm,.bool fam,.bool fwd,.bool ll,.int .i64 lt] 26)).drewN nq)):=HBV.out.trans ((HDD.out nq).mono HBV.out.size)
  have HMV:=hide (HMA.out.later (HDD.out nq))
  have HCV:Hid (((w2.alloc (.cells #[.bool four,.int .i64 as4,.bool gr,.bool rs,.int .i64 tm,.bool fam,.bool fwd,.bool ll,.int .i64 lt] 26)).drewN nq).heap[w2.heap.size]?=some (.cells #[.bool four,.int .i64 as4,.bool gr,.bool rs,.int .i64 tm,.bool fam,.bool fwd,.bool ll,.int .i64 lt] 26 (0,0))):=HCB.out
  have HYV:Hid (((w2.alloc (.cells #[.bool four,.int .i64 as4,.bool gr,.bool rs,.int .i64 tm,.bool fam,.bool fwd,.bool ll,.int .i64 lt] 26)).drewN nq).heap[W.heap.size]?=some (.cells (msgC 1 0 0 (.slice none 0 0)) 40 (0,0))):=by
   show _=_
   rw [((HBA.out.trans ((HDD.out nq).mono HBA.out.size))).block _ zY]; exact HD.out.bY
  generalize (w2.alloc (.cells #[.bool four,.int .i64 as4,.bool gr,.bool rs,.int .i64 tm,.bool fam,.bool fwd,.bool ll,.int .i64 lt] 26)).drewN nq=V1 at *
  have b0:V1.cell? ⟨w2.heap.size,0,none⟩=some (.bool four):=range_of HCV.out 0 _ rfl
  have b1:V1.cell? ⟨w2.heap.size,1,none⟩=some (.int .i64 as4):=range_of HCV.out 1 _ rfl
  have zV1:w2.heap.size < V1.heap.size:=(Array.getElem?_eq_some_iff.1 HCV.out).1
  clear q9 q1 q2 h9i
  clear HC HLT
  go_wp2_with fail
  go_wp2_with (refine keptM_build0_intro _ (run_build0M _) ?_)
  refine (KE.out 2 _ 2 HMV.out).mono ?_
  rintro e w3 ⟨a8,c8,W5,rfl,HST,HX,HF⟩
  obtain ⟨_,r0,r1,r2,f0,f1,f2⟩:=HX.out
  go_wp2_with (refine keptM_store_intro _ _ (.pointer (some ⟨w.heap.size,0,none⟩)) (.agg zM) (by rfl) (by rfl) HST.out ?_)
  refine bodyPost_ret (v:=.tuple #[.agg zM,.agg #[.int .i64 2,.int .i64 2,.slice a8 0 c8]]) (res_cells2 Tryz.results11 _ _ w.heap.size (w.heap.size+1) zM #[.int .i64 2,.int .i64 2,.slice a8 0 c8] rfl rfl HF.out.rM HF.out.rN Tryz.underlying40 rfl infoM Tryz.underlying38 rfl infoN) rfl ⟨?_,HF.out.bel⟩
  exact ⟨_,rfl,a8,c8,rfl,HF.out.own⟩
 )
set_option maxHeartbeats 4000000 in
theorem rdec_as2 (g o n cp:Nat)(bs:List Nat)(w:World)(hn:bs.length=n)(hn29:29≤n)(hl:n≤5000)(hcap:n≤cp)(h:BRd w (some ⟨g,o,none⟩) bs)(hr:headM bs=(n,0,0,[]))(hk1:bs.getD 18 0=1)(h4:(bs.drop 19).getD 0 0=4)(cc:Cp)(hrc:readC ((bs.drop 19).drop 10)=some cc)(h9:(bs.drop 19).getD 9 0=n - 19 - 10)(sa:Nat)(hsa:sa=256 * (bs.drop 19).getD 1 0+(bs.drop 19).getD 2 0)(h0:sa≠0)(hf:cc.four=true)(h1:(sa:Int)≠cc.as4)(h2:sa≠23456) :
  Calls Tryz.prog 11 #[.slice (some ⟨g,o,none⟩) n cp] w fun e w'=>BadIs w w' e 2 2 []∧Below w.heap.size w w':=by
 have KH:=read_facts g o n cp 10 bs w 1 hn (by omega) (by omega) hl hcap h hr (by rw [hk1]; rfl)
 have hF:=KH
 obtain ⟨c18,zg,HK,HC,HLT,HNC,H29,hcp19,hz0,hB,HBl,KE⟩:=hF
 unfold NtK at KE
 have KR:=kr_of KH (by omega) _ hrc
 simp only [decV,capV,Option.getD_some,Option.isSome_some] at KR
 have h9i:(((bs.drop 19).getD 9 0:Int) != ((n - 19:Nat):Int) - 10)=false:=by rw [bne_eq_false_iff_eq]; omega
 have h0i:((sa:Int) == 0)=false:=by rw [beq_eq_false_iff_ne]; omega
 have h1i:((sa:Int) != cc.as4)=true:=bne_iff_ne.2 h1
 have h2i:((sa:Int) != 23456)=true:=bne_iff_ne.2 (by omega)
 clear hrc h9 KH h hcap hr hn hk1 hl hn29 hB HBl
 unfold BadIs NoteIs
 obtain ⟨four,as4,gr,rs,tm,fam,fwd,ll,lt⟩:=cc
 simp only at KR hf h1i
 subst hf
 go_enter Tryz.func11,Tryz.ntmps11
 go_wp2_with (refine keptM_alloc_intro _ (run_allocM w) ?_)
 show Calls Tryz.prog 20 #[.slice (some ⟨g,o,none⟩) n cp] (dW w) _
 with_reducible refine HK.out.mono ?_
 rintro e w1 ⟨a9,c9,rfl,HB⟩
 have HH:=hide (h6_of a9 0 c9 HB.out zg c18)
 go_wp2_with fail
 generalize (w1.alloc (.cells #[.int .i64 0,.int .i64 0,.slice a9 0 c9] 38))=W at *
 refine rm_region _ W g o n cp 1 (opi rfl) (opi rfl) (opi rfl) (opi rfl) (opi rfl) (opi rfl) (opi rfl) (opi rfl) (opi rfl) (opi rfl) rfl (by kernel_rfl)
  (by kernel_rfl) (by kernel_rfl) (by kernel_rfl) (by kernel_rfl) (by kernel_rfl) (by kernel_rfl) (by kernel_rfl) (by kernel_rfl) (by kernel_rfl) (by kernel_rfl) (by kernel_rfl)
  rfl rfl (by have:=H29.out.1; omega) (by have:=H29.out.2; omega) (by omega) HH.out.c18 ?_
 intro a W6 hfr h6 h7 bY hb6
 rw [if_neg hcp19] at h7
 obtain ⟨x0,x1,x2,x3,x4,x5,x6,rfl⟩:=hfr.lay9m (by exact (by decide:∀ s∈[39,40,41,42,43,44,45,6,7],s < 247)) h6 h7
 have HD:Hid (D6 w W6 w1.heap.size W.heap.size (msgC 1 0 0 (.slice none 0 0)) (.slice a9 0 c9)):=HH.out.d6 bY hb6
 have y0:W6.cell? ⟨W.heap.size,0,none⟩=some (.int .i64 1):=range_of HD.out.bY 0 _ rfl
 have zY:W.heap.size < W6.heap.size:=HD.out.hs
 have HZ:=hide HH.out.sz
 have HBW2:=hide HH.out.bel
 have hsz:=HH.out.le
 clear hfr h6 h7 bY hb6
 simp only [Act.put,List.setIfInBounds_toArray,List.set_cons_zero,List.set_cons_succ]
 have HMW:Hid (MW w W6):=⟨HD.out.bM,HD.out.bN,HD.out.bel⟩
 have q0:=HC.out W6 HD.out.bel 0 (by have:=HNC.out; omega)
 rw [Nat.add_zero,h4] at q0
 have HBL:=hide HD.out.bel
 generalize n - 19=N at *
 generalize cp - 19=CP at *
 obtain ⟨hN10,hNC,hN5⟩:=HNC.out
 have HN5:=hide hN5
 have hN0i:(0:Int) < (N:Int):=by omega
 have hN10i:(10:Int)≤(N:Int):=by omega
 have hN9i:(9:Int) < (N:Int):=by omega
 have hN5i:(N:Int)≤5000:=by omega
 clear hN5
 by_cases e10:CP=10
 rotate_left
 simp only [if_neg e10] at KR
 rotate_left
 have e10n:N=10:=by omega
 subst e10 e10n
 simp only [Nat.sub_self,↓reduceIte] at KR
 all_goals (
  go_wp2_with fail
  with_reducible refine (KR.out _ HBL.out).mono ?_
  rintro e w2 ⟨rfl,HB2⟩
  have HBA:Hid (Below W6.heap.size W6 (w2.alloc (.cells #[.bool true,.int .i64 as4,.bool gr,.bool rs,.int .i64 tm,.bool fam,.bool fwd,.bool ll,.int .i64 lt] 26))):=HB2.out.alloc HB2.out.size _
  have HMA:=hide (HMW.out.later HBA.out)
  have HBV:Hid (Below w.heap.size w (w2.alloc (.cells #[.bool true,.int .i64 as4,.bool gr,.bool rs,.int .i64 tm,.bool fam,.bool fwd,.bool ll,.int .i64 lt] 26))):=HBL.out.trans (HBA.out.mono HBL.out.size)
  have q9:(w2.alloc (.cells #[.bool true,.int .i64 as4,.bool gr,.bool rs,.int .i64 tm,.bool fam,.bool fwd,.bool ll,.int .i64 lt] 26)).cell? ⟨g,o+19+9,none⟩=some (.int .u8 ((bs.drop 19).getD 9 0:Int)):=HC.out _ HBV.out 9 (by omega)
  have q1:(w2.alloc (.cells #[.bool true,.int .i64 as4,.bool gr,.bool rs,.int .i64 tm,.bool fam,.bool fwd,.bool ll,.int .i64 lt] 26)).cell? ⟨g,o+19+1,none⟩=some (.int .u8 ((bs.drop 19).getD 1 0:Int)):=HC.out _ HBV.out 1 (by omega)
  have q2:(w2.alloc (.cells #[.bool true,.int .i64 as4,.bool gr,.bool rs,.int .i64 tm,.bool fam,.bool fwd,.bool ll,.int .i64 lt] 26)).cell? ⟨g,o+19+2,none⟩=some (.int .u8 ((bs.drop 19).getD 2 0:Int)):=HC.out _ HBV.out 2 (by omega)
  have hl9:=HLT.out 9
  have hl1:=HLT.out 1
  have hl2:=HLT.out 2
  generalize (bs.drop 19).getD 9 0=v9 at *
  generalize (bs.drop 19).getD 1 0=v1 at *
  generalize (bs.drop 19).getD 2 0=v2 at *
  have HZ9:g < (w2.alloc (.cells #[.bool true,.int .i64 as4,.bool gr,.bool rs,.int .i64 tm,.bool fam,.bool fwd,.bool ll,.int .i64 lt] 26)).heap.size:=by have:=HBL.out.size; have:=HBA.out.size; omega
  have HCB:Hid ((w2.alloc (.cells #[.bool true,.int .i64 as4,.bool gr,.bool rs,.int .i64 tm,.bool fam,.bool fwd,.bool ll,.int .i64 lt] 26)).heap[w2.heap.size]?=some (.cells #[.bool true,.int .i64 as4,.bool gr,.bool rs,.int .i64 tm,.bool fam,.bool fwd,.bool ll,.int .i64 lt] 26 (0,0))):=heap_alloc_new w2 _
  have HZY:Hid (W.heap.size < w2.heap.size):=by have:=HB2.out.size; show W.heap.size < w2.heap.size; omega
  have hsai:256 * (v1:Int)+(v2:Int)=(sa:Int):=by omega
  have HSA:=hide hsai
  clear hsai hsa
  have hbd:∀ m,Below ((w2.alloc (.cells #[.bool true,.int .i64 as4,.bool gr,.bool rs,.int .i64 tm,.bool fam,.bool fwd,.bool ll,.int .i64 lt] 26))).heap.size ((w2.alloc (.cells #[.bool true,.int .i64 as4,.bool gr,.bool rs,.int .i64 tm,.bool fam,.bool fwd,.bool ll,.int .i64 lt] 26))) (((w2.alloc (.cells #[.bool true,.int .i64 as4,.bool gr,.bool rs,.int .i64 tm,.bool fam,.bool fwd,.bool ll,.int .i64 lt] 26))).drewN m):=fun m=>below_drewN (Below.refl _ _) m
  have HDD:=hide hbd
  clear hbd
  go_wp2_with fail
  go_quiet (fail)
  rw [HSA.out]
  have HBV2:Hid (Below w.heap.size w ((w2.alloc (.cells #[.bool true,.int .i64 as4,.bool gr,.bool rs,.int .i64 tm,.bool fam,.bool fwd,.bool ll,.int .i64 lt] 26)).drewN nq)):=HBV.out.trans ((HDD.out nq).mono HBV.out.size)
  have HMV:=hide (HMA.out.later (HDD.out nq))
  have HCV:Hid (((w2.alloc (.cells #[.bool true,.int .i64 as4,.bool gr,.bool rs,.int .i64 tm,.bool fam,.bool fwd,.bool ll,.int .i64 lt] 26)).drewN nq).heap[w2.heap.size]?=some (.cells #[.bool true,.int .i64 as4,.bool gr,.bool rs,.int .i64 tm,.bool fam,.bool fwd,.bool ll,.int .i64 lt] 26 (0,0))):=HCB.out
  have HYV:Hid (((w2.alloc (.cells #[.bool true,.int .i64 as4,.bool gr,.bool rs,.int .i64 tm,.bool fam,.bool fwd,.bool ll,.int .i64 lt] 26)).drewN nq).heap[W.heap.size]?=some (.cells (msgC 1 0 0 (.slice none 0 0)) 40 (0,0))):=by
   show _=_
   rw [((HBA.out.trans ((HDD.out nq).mono HBA.out.size))).block _ zY]; exact HD.out.bY
  generalize (w2.alloc (.cells #[.bool true,.int .i64 as4,.bool gr,.bool rs,.int .i64 tm,.bool fam,.bool fwd,.bool ll,.int .i64 lt] 26)).drewN nq=V1 at *
  have b0:V1.cell? ⟨w2.heap.size,0,none⟩=some (.bool true):=range_of HCV.out 0 _ rfl
  have b1:V1.cell? ⟨w2.heap.size,1,none⟩=some (.int .i64 as4):=range_of HCV.out 1 _ rfl
  have zV1:w2.heap.size < V1.heap.size:=(Array.getElem?_eq_some_iff.1 HCV.out).1
  clear q9 q1 q2 h9i
  clear HC HLT
  go_wp2_with fail
  go_wp2_with (refine keptM_build0_intro _ (run_build0M _) ?_)
  refine (KE.out 2 _ 2 HMV.out).mono ?_
  rintro e w3 ⟨a8,c8,W5,rfl,HST,HX,HF⟩
  obtain ⟨_,r0,r1,r2,f0,f1,f2⟩:=HX.out
  go_wp2_with (refine keptM_store_intro _ _ (.pointer (some ⟨w.heap.size,0,none⟩)) (.agg zM) (by rfl) (by rfl) HST.out ?_)
  refine bodyPost_ret (v:=.tuple #[.agg zM,.agg #[.int .i64 2,.int .i64 2,.slice a8 0 c8]]) (res_cells2 Tryz.results11 _ _ w.heap.size (w.heap.size+1) zM #[.int .i64 2,.int .i64 2,.slice a8 0 c8] rfl rfl HF.out.rM HF.out.rN Tryz.underlying40 rfl infoM Tryz.underlying38 rfl infoN) rfl ⟨?_,HF.out.bel⟩
  exact ⟨_,rfl,a8,c8,rfl,HF.out.own⟩
 )
end
end Go.Proofs.YtogbjeaceboemaaGreatDoor
