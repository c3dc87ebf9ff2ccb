import Derived.Test.YtogbjeaceboemaaGreatDoorPA16
import Derived.Test.YtogbjeaceboemaaGreatDoorPA15
import Derived.Test.YtogbjeaceboemaaGreatDoorPA39
namespace Go.Proofs.YtogbjeaceboemaaGreatDoor
open Go.RowKit
set_option maxRecDepth 100000
section
attribute [local go_sem ↓] keptM_load keptM_store keptM_alloc keptM_build
set_option maxHeartbeats 4000000 in
theorem rdec_vers (g o n cp:Nat)(bs:List Nat)(w:World)(hn:bs.length=n)(hn29:29≤n)(hl:n≤5000)(hcap:n≤cp)(h:BRd w (some ⟨g,o,none⟩) bs)(hr:headM bs=(n,0,0,[]))(hk1:bs.getD 18 0=1)(hv:(bs.drop 19).getD 0 0≠4) :
  Calls Tryz.prog 11 #[.slice (some ⟨g,o,none⟩) n cp] w fun e w'=>BadIs w w' e 2 1 [0,4]∧Below w.heap.size w w':=by
 have KH:=read_facts g o n cp 10 bs w 1 hn (by omega) (by omega) hl hcap h hr (by rw [hk1]; rfl)
 have hF:=KH
 obtain ⟨c18,zg,HK,HC,HLT,HNC,H29,hcp19,hz0,hB,HBl,KE⟩:=hF
 unfold NtK at KE
 have hvi:(((bs.drop 19).getD 0 0:Int) != 4)=true:=bne_iff_ne.2 (by omega)
 have KE1:=ke_vers (w:=w)
 unfold NtK at KE1
 clear hv KE KH h hcap hr hn hk1 hl hn29 hB HBl
 unfold BadIs NoteIs
 go_enter Tryz.func11,Tryz.ntmps11
 go_wp2_with (refine keptM_alloc_intro _ (run_allocM w) ?_)
 show Calls Tryz.prog 20 #[.slice (some ⟨g,o,none⟩) n cp] (dW w) _
 with_reducible refine HK.out.mono ?_
 rintro e w1 ⟨a9,c9,rfl,HB⟩
 have HH:=hide (h6_of a9 0 c9 HB.out zg c18)
 go_wp2_with fail
 generalize (w1.alloc (.cells #[.int .i64 0,.int .i64 0,.slice a9 0 c9] 38))=W at *
 refine rm_region _ W g o n cp 1 (opi rfl) (opi rfl) (opi rfl) (opi rfl) (opi rfl) (opi rfl) (opi rfl) (opi rfl) (opi rfl) (opi rfl) rfl (by kernel_rfl)
  (by kernel_rfl) (by kernel_rfl) (by kernel_rfl) (by kernel_rfl) (by kernel_rfl) (by kernel_rfl) (by kernel_rfl) (by kernel_rfl) (by kernel_rfl) (by kernel_rfl) (by kernel_rfl)
  rfl rfl (by have:=H29.out.1; omega) (by have:=H29.out.2; omega) (by omega) HH.out.c18 ?_
 intro a W6 hfr h6 h7 bY hb6
 rw [if_neg hcp19] at h7
 obtain ⟨x0,x1,x2,x3,x4,x5,x6,rfl⟩:=hfr.lay9m (by exact (by decide:∀ s∈[39,40,41,42,43,44,45,6,7],s < 247)) h6 h7
 have HD:Hid (D6 w W6 w1.heap.size W.heap.size (msgC 1 0 0 (.slice none 0 0)) (.slice a9 0 c9)):=HH.out.d6 bY hb6
 have y0:W6.cell? ⟨W.heap.size,0,none⟩=some (.int .i64 1):=range_of HD.out.bY 0 _ rfl
 have zY:W.heap.size < W6.heap.size:=HD.out.hs
 have HZ:=hide HH.out.sz
 have HBW2:=hide HH.out.bel
 have hsz:=HH.out.le
 clear hfr h6 h7 bY hb6
 simp only [Act.put,List.setIfInBounds_toArray,List.set_cons_zero,List.set_cons_succ]
 have HMW:Hid (MW w W6):=⟨HD.out.bM,HD.out.bN,HD.out.bel⟩
 have q0:=HC.out W6 HD.out.bel 0 (by have:=HNC.out; omega)
 rw [Nat.add_zero] at q0
 have hN0:¬ n - 19=0:=by have:=HNC.out; omega
 generalize (bs.drop 19).getD 0 0=v0 at *
 generalize n - 19=N at *
 generalize cp - 19=CP at *
 have hN0i:(0:Int) < (N:Int):=by omega
 clear HC HLT
 go_wp2_with (refine keptM_build0_intro _ (run_build0M _) ?_)
 refine (KE1.out _ W6.heap.size (HMW.out.later ((Below.refl _ _).alloc (Nat.le_refl _) _)) (heap_alloc_new W6 _)).mono ?_
 rintro e w3 ⟨a8,c8,W5,rfl,HST,HX,HF⟩
 obtain ⟨_,r0,r1,r2,f0,f1,f2⟩:=HX.out
 go_wp2_with (refine keptM_store_intro _ _ (.pointer (some ⟨w.heap.size,0,none⟩)) (.agg zM) (by rfl) (by rfl) HST.out ?_)
 refine bodyPost_ret (v:=.tuple #[.agg zM,.agg #[.int .i64 2,.int .i64 1,.slice a8 2 c8]]) (res_cells2 Tryz.results11 _ _ w.heap.size (w.heap.size+1) zM #[.int .i64 2,.int .i64 1,.slice a8 2 c8] rfl rfl HF.out.rM HF.out.rN Tryz.underlying40 rfl infoM Tryz.underlying38 rfl infoN) rfl ⟨?_,HF.out.bel⟩
 exact ⟨_,rfl,a8,c8,rfl,HF.out.own⟩
set_option maxHeartbeats 4000000 in
theorem rdec_nocaps (g o n cp:Nat)(bs:List Nat)(w:World)(hn:bs.length=n)(hn29:29≤n)(hl:n≤5000)(hcap:n≤cp)(h:BRd w (some ⟨g,o,none⟩) bs)(hr:headM bs=(n,0,0,[]))(hk1:bs.getD 18 0=1)(h4:(bs.drop 19).getD 0 0=4)(hrc:readC ((bs.drop 19).drop 10)=none) :
  Calls Tryz.prog 11 #[.slice (some ⟨g,o,none⟩) n cp] w fun e w'=>BadIs w w' e 2 0 []∧Below w.heap.size w w':=by
 have KH:=read_facts g o n cp 10 bs w 1 hn (by omega) (by omega) hl hcap h hr (by rw [hk1]; rfl)
 have hF:=KH
 obtain ⟨c18,zg,HK,HC,HLT,HNC,H29,hcp19,hz0,hB,HBl,KE⟩:=hF
 unfold NtK at KE
 have KR:=kr_of KH (by omega) _ hrc
 simp only [decV,capV,cp0,Option.getD_none,Option.isSome_none] at KR
 clear hrc KH h hcap hr hn hk1 hl hn29 hB HBl
 unfold BadIs NoteIs
 go_enter Tryz.func11,Tryz.ntmps11
 go_wp2_with (refine keptM_alloc_intro _ (run_allocM w) ?_)
 show Calls Tryz.prog 20 #[.slice (some ⟨g,o,none⟩) n cp] (dW w) _
 with_reducible refine HK.out.mono ?_
 rintro e w1 ⟨a9,c9,rfl,HB⟩
 have HH:=hide (h6_of a9 0 c9 HB.out zg c18)
 go_wp2_with fail
 generalize (w1.alloc (.cells #[.int .i64 0,.int .i64 0,.slice a9 0 c9] 38))=W at *
 refine rm_region _ W g o n cp 1 (opi rfl) (opi rfl) (opi rfl) (opi rfl) (opi rfl) (opi rfl) (opi rfl) (opi rfl) (opi rfl) (opi rfl) rfl (by kernel_rfl)
  (by kernel_rfl) (by kernel_rfl) (by kernel_rfl) (by kernel_rfl) (by kernel_rfl) (by kernel_rfl) (by kernel_rfl) (by kernel_rfl) (by kernel_rfl) (by kernel_rfl) (by kernel_rfl)
  rfl rfl (by have:=H29.out.1; omega) (by have:=H29.out.2; omega) (by omega) HH.out.c18 ?_
 intro a W6 hfr h6 h7 bY hb6
 rw [if_neg hcp19] at h7
 obtain ⟨x0,x1,x2,x3,x4,x5,x6,rfl⟩:=hfr.lay9m (by exact (by decide:∀ s∈[39,40,41,42,43,44,45,6,7],s < 247)) h6 h7
 have HD:Hid (D6 w W6 w1.heap.size W.heap.size (msgC 1 0 0 (.slice none 0 0)) (.slice a9 0 c9)):=HH.out.d6 bY hb6
 have y0:W6.cell? ⟨W.heap.size,0,none⟩=some (.int .i64 1):=range_of HD.out.bY 0 _ rfl
 have zY:W.heap.size < W6.heap.size:=HD.out.hs
 have HZ:=hide HH.out.sz
 have HBW2:=hide HH.out.bel
 have hsz:=HH.out.le
 clear hfr h6 h7 bY hb6
 simp only [Act.put,List.setIfInBounds_toArray,List.set_cons_zero,List.set_cons_succ]
 have HMW:Hid (MW w W6):=⟨HD.out.bM,HD.out.bN,HD.out.bel⟩
 have q0:=HC.out W6 HD.out.bel 0 (by have:=HNC.out; omega)
 rw [Nat.add_zero,h4] at q0
 have HBL:=hide HD.out.bel
 generalize n - 19=N at *
 generalize cp - 19=CP at *
 obtain ⟨hN10,hNC,hN5⟩:=HNC.out
 have HN5:=hide hN5
 have hN0i:(0:Int) < (N:Int):=by omega
 have hN10i:(10:Int)≤(N:Int):=by omega
 have hN9i:(9:Int) < (N:Int):=by omega
 have hN5i:(N:Int)≤5000:=by omega
 clear hN5
 by_cases e10:CP=10
 rotate_left
 simp only [if_neg e10] at KR
 rotate_left
 have e10n:N=10:=by omega
 subst e10 e10n
 simp only [Nat.sub_self,↓reduceIte] at KR
 all_goals (
  go_wp2_with fail
  with_reducible refine (KR.out _ HBL.out).mono ?_
  rintro e w2 ⟨rfl,HB2⟩
  have HBA:Hid (Below W6.heap.size W6 (w2.alloc (.cells #[.bool false,.int .i64 0,.bool false,.bool false,.int .i64 0,.bool false,.bool false,.bool false,.int .i64 0] 26))):=HB2.out.alloc HB2.out.size _
  have HMA:=hide (HMW.out.later HBA.out)
  go_wp2_with (refine keptM_build0_intro _ (run_build0M _) ?_)
  refine (KE.out 2 _ 0 HMA.out).mono ?_
  rintro e w3 ⟨a8,c8,W5,rfl,HST,HX,HF⟩
  obtain ⟨_,r0,r1,r2,f0,f1,f2⟩:=HX.out
  go_wp2_with (refine keptM_store_intro _ _ (.pointer (some ⟨w.heap.size,0,none⟩)) (.agg zM) (by rfl) (by rfl) HST.out ?_)
  refine bodyPost_ret (v:=.tuple #[.agg zM,.agg #[.int .i64 2,.int .i64 0,.slice a8 0 c8]]) (res_cells2 Tryz.results11 _ _ w.heap.size (w.heap.size+1) zM #[.int .i64 2,.int .i64 0,.slice a8 0 c8] rfl rfl HF.out.rM HF.out.rN Tryz.underlying40 rfl infoM Tryz.underlying38 rfl infoN) rfl ⟨?_,HF.out.bel⟩
  exact ⟨_,rfl,a8,c8,rfl,HF.out.own⟩
 )
set_option maxHeartbeats 4000000 in
theorem rdec_badlen (g o n cp:Nat)(bs:List Nat)(w:World)(hn:bs.length=n)(hn29:29≤n)(hl:n≤5000)(hcap:n≤cp)(h:BRd w (some ⟨g,o,none⟩) bs)(hr:headM bs=(n,0,0,[]))(hk1:bs.getD 18 0=1)(h4:(bs.drop 19).getD 0 0=4)(cc:Cp)(hrc:readC ((bs.drop 19).drop 10)=some cc)(h9:(bs.drop 19).getD 9 0≠n - 19 - 10) :
  Calls Tryz.prog 11 #[.slice (some ⟨g,o,none⟩) n cp] w fun e w'=>BadIs w w' e 2 0 []∧Below w.heap.size w w':=by
 have KH:=read_facts g o n cp 10 bs w 1 hn (by omega) (by omega) hl hcap h hr (by rw [hk1]; rfl)
 have hF:=KH
 obtain ⟨c18,zg,HK,HC,HLT,HNC,H29,hcp19,hz0,hB,HBl,KE⟩:=hF
 unfold NtK at KE
 have KR:=kr_of KH (by omega) _ hrc
 simp only [decV,capV,Option.getD_some,Option.isSome_some] at KR
 have h9i:(((bs.drop 19).getD 9 0:Int) != ((n - 19:Nat):Int) - 10)=true:=bne_iff_ne.2 (by omega)
 clear hrc h9 KH h hcap hr hn hk1 hl hn29 hB HBl
 unfold BadIs NoteIs
 obtain ⟨four,as4,gr,rs,tm,fam,fwd,ll,lt⟩:=cc
 simp only at KR
 go_enter Tryz.func11,Tryz.ntmps11
 go_wp2_with (refine keptM_alloc_intro _ (run_allocM w) ?_)
 show Calls Tryz.prog 20 #[.slice (some ⟨g,o,none⟩) n cp] (dW w) _
 with_reducible refine HK.out.mono ?_
 rintro e w1 ⟨a9,c9,rfl,HB⟩
 have HH:=hide (h6_of a9 0 c9 HB.out zg c18)
 go_wp2_with fail
 generalize (w1.alloc (.cells #[.int .i64 0,.int .i64 0,.slice a9 0 c9] 38))=W at *
 refine rm_region _ W g o n cp 1 (opi rfl) (opi rfl) (opi rfl) (opi rfl) (opi rfl) (opi rfl) (opi rfl) (opi rfl) (opi rfl) (opi rfl) rfl (by kernel_rfl)
  (by kernel_rfl) (by kernel_rfl) (by kernel_rfl) (by kernel_rfl) (by kernel_rfl) (by kernel_rfl) (by kernel_rfl) (by kernel_rfl) (by kernel_rfl) (by kernel_rfl) (by kernel_rfl)
  rfl rfl (by have:=H29.out.1; omega) (by have:=H29.out.2; omega) (by omega) HH.out.c18 ?_
 intro a W6 hfr h6 h7 bY hb6
 rw [if_neg hcp19] at h7
 obtain ⟨x0,x1,x2,x3,x4,x5,x6,rfl⟩:=hfr.lay9m (by exact (by decide:∀ s∈[39,40,41,42,43,44,45,6,7],s < 247)) h6 h7
 have HD:Hid (D6 w W6 w1.heap.size W.heap.size (msgC 1 0 0 (.slice none 0 0)) (.slice a9 0 c9)):=HH.out.d6 bY hb6
 have y0:W6.cell? ⟨W.heap.size,0,none⟩=some (.int .i64 1):=range_of HD.out.bY 0 _ rfl
 have zY:W.heap.size < W6.heap.size:=HD.out.hs
 have HZ:=hide HH.out.sz
 have HBW2:=hide HH.out.bel
 have hsz:=HH.out.le
 clear hfr h6 h7 bY hb6
 simp only [Act.put,List.setIfInBounds_toArray,List.set_cons_zero,List.set_cons_succ]
 have HMW:Hid (MW w W6):=⟨HD.out.bM,HD.out.bN,HD.out.bel⟩
 have q0:=HC.out W6 HD.out.bel 0 (by have:=HNC.out; omega)
 rw [Nat.add_zero,h4] at q0
 have HBL:=hide HD.out.bel
 generalize n - 19=N at *
 generalize cp - 19=CP at *
 obtain ⟨hN10,hNC,hN5⟩:=HNC.out
 have HN5:=hide hN5
 have hN0i:(0:Int) < (N:Int):=by omega
 have hN10i:(10:Int)≤(N:Int):=by omega
 have hN9i:(9:Int) < (N:Int):=by omega
 have hN5i:(N:Int)≤5000:=by omega
 clear hN5
 by_cases e10:CP=10
 rotate_left
 simp only [if_neg e10] at KR
 rotate_left
 have e10n:N=10:=by omega
 subst e10 e10n
 simp only [Nat.sub_self,↓reduceIte] at KR
 all_goals (
  go_wp2_with fail
  with_reducible refine (KR.out _ HBL.out).mono ?_
  rintro e w2 ⟨rfl,HB2⟩
  have HBA:Hid (Below W6.heap.size W6 (w2.alloc (.cells #[.bool four,.int .i64 as4,.bool gr,.bool rs,.int .i64 tm,.bool fam,.bool fwd,.bool ll,.int .i64 lt] 26))):=HB2.out.alloc HB2.out.size _
  have HMA:=hide (HMW.out.later HBA.out)
  have q9:(w2.alloc (.cells #[.bool four,.int .i64 as4,.bool gr,.bool rs,.int .i64 tm,.bool fam,.bool fwd,.bool ll,.int .i64 lt] 26)).cell? ⟨g,o+19+9,none⟩=some (.int .u8 ((bs.drop 19).getD 9 0:Int)):=HC.out _ (HBL.out.trans (HBA.out.mono HBL.out.size)) 9 (by omega)
  have hl9:=HLT.out 9
  generalize (bs.drop 19).getD 9 0=v9 at *
  clear HC HLT
  have HZ9:g < (w2.alloc (.cells #[.bool four,.int .i64 as4,.bool gr,.bool rs,.int .i64 tm,.bool fam,.bool fwd,.bool ll,.int .i64 lt] 26)).heap.size:=by have:=HBL.out.size; have:=HBA.out.size; omega
  go_wp2_with (refine keptM_build0_intro _ (run_build0M _) ?_)
  refine (KE.out 2 _ 0 HMA.out).mono ?_
  rintro e w3 ⟨a8,c8,W5,rfl,HST,HX,HF⟩
  obtain ⟨_,r0,r1,r2,f0,f1,f2⟩:=HX.out
  go_wp2_with (refine keptM_store_intro _ _ (.pointer (some ⟨w.heap.size,0,none⟩)) (.agg zM) (by rfl) (by rfl) HST.out ?_)
  refine bodyPost_ret (v:=.tuple #[.agg zM,.agg #[.int .i64 2,.int .i64 0,.slice a8 0 c8]]) (res_cells2 Tryz.results11 _ _ w.heap.size (w.heap.size+1) zM #[.int .i64 2,.int .i64 0,.slice a8 0 c8] rfl rfl HF.out.rM HF.out.rN Tryz.underlying40 rfl infoM Tryz.underlying38 rfl infoN) rfl ⟨?_,HF.out.bel⟩
  exact ⟨_,rfl,a8,c8,rfl,HF.out.own⟩
 )
end
end Go.Proofs.YtogbjeaceboemaaGreatDoor
