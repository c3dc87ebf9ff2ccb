import Derived.Test.YtdojlejehjbliaaGreatDoorPA44
namespace Go.Proofs.YtdojlejehjbliaaGreatDoor
set_option maxHeartbeats 4000000
open _root_.Go.Value renaming bool → I,int → J,slice → K
open _root_.Go.IntKind renaming i64 → V
open _root_.Go.Obj renaming cells → Z
open _root_.Option renaming some → Q,none → U
open _root_.List renaming setIfInBounds_toArray → E,set_cons_zero → D,set_cons_succ → R
open Go.RowKit
set_option maxRecDepth 100000
section
attribute [local go_sem ↓] Qbe Qba keptM_alloc Qbb
theorem Fr.lay18 {t0 t1 t2 t3 t4 t5 t6 t7 t8 t9 t10 t11 t12 t13 t14 t15 t16 t17:Nat}{b a:Act} (h:Fr [t0,t1,t2,t3,t4,t5,t6,t7,t8,t9,t10,t11,t12,t13,t14,t15,t16,t17] b a) (hsz:∀ s∈[t0,t1,t2,t3,t4,t5,t6,t7,t8,t9,t10,t11,t12,t13,t14,t15,t16,t17],s < b.tmps.size) :
  ∃ x0 x1 x2 x3 x4 x5 x6 x7 x8 x9 x10 x11 x12 x13 x14 x15 x16 x17,a=((((((((((((((((((b.put (Q t0) x0).put (Q t1) x1).put (Q t2) x2).put (Q t3) x3).put (Q t4) x4).put (Q t5) x5).put (Q t6) x6).put (Q t7) x7).put (Q t8) x8).put (Q t9) x9).put (Q t10) x10).put (Q t11) x11).put (Q t12) x12).put (Q t13) x13).put (Q t14) x14).put (Q t15) x15).put (Q t16) x16).put (Q t17) x17):=by
 have get:∀ t,t∈[t0,t1,t2,t3,t4,t5,t6,t7,t8,t9,t10,t11,t12,t13,t14,t15,t16,t17]→∃ x,a.tmps[t]?=Q x:=fun t ht=>⟨_,Array.getElem?_eq_getElem (by rw [h.size]; exact hsz t ht)⟩
 obtain ⟨x0,h0⟩:=get t0 (by simp)
 obtain ⟨x1,h1⟩:=get t1 (by simp)
 obtain ⟨x2,h2⟩:=get t2 (by simp)
 obtain ⟨x3,h3⟩:=get t3 (by simp)
 obtain ⟨x4,h4⟩:=get t4 (by simp)
 obtain ⟨x5,h5⟩:=get t5 (by simp)
 obtain ⟨x6,h6⟩:=get t6 (by simp)
 obtain ⟨x7,h7⟩:=get t7 (by simp)
 obtain ⟨x8,h8⟩:=get t8 (by simp)
 obtain ⟨x9,h9⟩:=get t9 (by simp)
 obtain ⟨x10,h10⟩:=get t10 (by simp)
 obtain ⟨x11,h11⟩:=get t11 (by simp)
 obtain ⟨x12,h12⟩:=get t12 (by simp)
 obtain ⟨x13,h13⟩:=get t13 (by simp)
 obtain ⟨x14,h14⟩:=get t14 (by simp)
 obtain ⟨x15,h15⟩:=get t15 (by simp)
 obtain ⟨x16,h16⟩:=get t16 (by simp)
 obtain ⟨x17,h17⟩:=get t17 (by simp)
 refine ⟨x0,x1,x2,x3,x4,x5,x6,x7,x8,x9,x10,x11,x12,x13,x14,x15,x16,x17,Fr.eq (b:=b) (l:=[(t0,x0),(t1,x1),(t2,x2),(t3,x3),(t4,x4),(t5,x5),(t6,x6),(t7,x7),(t8,x8),(t9,x9),(t10,x10),(t11,x11),(t12,x12),(t13,x13),(t14,x14),(t15,x15),(t16,x16),(t17,x17)]) (c:=b) rfl h.defers h.size h.out fun p hp=>?_⟩
 simp only [List.mem_cons,List.not_mem_nil,or_false] at hp
 rcases hp with rfl | rfl | rfl | rfl | rfl | rfl | rfl | rfl | rfl | rfl | rfl | rfl | rfl | rfl | rfl | rfl | rfl | rfl <;> assumption
theorem Qtp (g o n cp:Nat)(bs:List Nat)(w:World)(hn:bs.length=n)(hn29:29≤n)(hl:n≤5000)(hcap:n≤cp)(h:BRd w (Q ⟨g,o,U⟩) bs)(hr:Qa6 bs=(n,0,0,[]))(hk1:bs.getD 18 0=1)(h4:(bs.drop 19).getD 0 0=4)(cc:Cp)(hrc:Qfc ((bs.drop 19).drop 10)=Q cc)(h9:(bs.drop 19).getD 9 0=n - 19 - 10)(sa:Nat)(hsa:sa=256 * (bs.drop 19).getD 1 0+(bs.drop 19).getD 2 0)(h0:sa≠0)(hf:cc.four=true)(h1:(sa:Int)=cc.as4∨((sa:Int)≠cc.as4∧sa=23456)) :
  Calls Tryz.prog 8 #[K (Q ⟨g,o,U⟩) n cp] w fun e w'=>e=.returned (.tuple #[.agg (openMsg 1 (Qce (cc.as4) (256 * (bs.drop 19).getD 3 0+(bs.drop 19).getD 4 0) (num fun i=>(bs.drop 19).getD (5+i) 0) cc)),.agg #[J V 0,J V 0,K U 0 0]])∧Below w.heap.size w w':=by
 have KH:=Qb5 g o n cp 10 bs w 1 hn (by omega) (by omega) hl hcap h hr (by rw [hk1]; rfl)
 have hF:=KH
 obtain ⟨c18,zg,HK,HC,HLT,HNC,H29,hcp19,hz0,hB,HBl,KE⟩:=hF
 unfold NtK at KE
 have KR:=Qrk KH (by omega) _ hrc
 simp only [Qpy,Qga,Option.getD_some,Option.isSome_some] at KR
 have h9i:(((bs.drop 19).getD 9 0:Int) != ((n - 19:Nat):Int) - 10)=false:=by rw [bne_eq_false_iff_eq]; omega
 have KNU:Hid (∀ X,Below w.heap.size w X→Calls Tryz.prog 25 #[K (Q ⟨g,o+19+5,U⟩) (n - 19 - 5) (cp - 19 - 5)] X fun e w'=>e=.returned (J V ((num fun i=>(bs.drop 19).getD (5+i) 0:Nat):Int))∧∃ k,w'=X.drewN k):=fun X hX =>
  Qf5 g (o+19+5) _ _ _ X (by omega) (fun i _=>Qau hB.2 _) (fun i hi=>by rw [Nat.add_assoc (o+19) 5 i]; exact HC.out X hX (5+i) (by omega))
 have hnum:(num fun i=>(bs.drop 19).getD (5+i) 0) < 4294967296:=by
  have n0:=HLT.out (5+0)
  have n1:=HLT.out (5+1)
  have n2:=HLT.out (5+2)
  have n3:=HLT.out (5+3)
  unfold num
  dsimp only
  omega
 have HC3:Hid (∀ X,Below w.heap.size w X→X.cell? ⟨g,o+19+3,U⟩=Q (J .u8 ((bs.drop 19).getD 3 0:Int))∧X.cell? ⟨g,o+19+4,U⟩=Q (J .u8 ((bs.drop 19).getD 4 0:Int))):=fun X hX=>⟨HC.out X hX 3 (by omega),HC.out X hX 4 (by omega)⟩
 have hl3:=HLT.out 3
 have hl4:=HLT.out 4
 have h0i:((sa:Int) == 0)=false:=by rw [beq_eq_false_iff_ne]; omega
 have HHI:Hid ((((sa:Int) != cc.as4)=false)∨((((sa:Int) != cc.as4)=true)∧(((sa:Int) != 23456)=false))):=by
  rcases h1 with h1 | ⟨h1,h2⟩
  ·exact .inl (by rw [bne_eq_false_iff_eq]; exact h1)
  ·exact .inr ⟨bne_iff_ne.2 h1,by rw [bne_eq_false_iff_eq]; omega⟩
 clear KE h0 h1 hrc h9 KH h hcap hr hn hk1 hl hn29 hB HBl
 obtain ⟨four,as4,gr,rs,tm,fam,fwd,ll,lt⟩:=cc
 simp only at KR hf HHI ⊢
 subst hf
 generalize (num fun i=>(bs.drop 19).getD (5+i) 0)=ii at *
 generalize (bs.drop 19).getD 3 0=v3 at *
 generalize (bs.drop 19).getD 4 0=v4 at *
 go_enter Tryz.func8,Tryz.ntmps8
 go_wp2_with (refine Qah _ (Qav w) ?_)
 show Calls Tryz.prog 15 #[K (Q ⟨g,o,U⟩) n cp] (dW w) _
 with_reducible refine HK.out.mono ?_
 rintro e w1 ⟨a9,c9,rfl,HB⟩
 have HH:=Qaa (Qen a9 0 c9 HB.out zg c18)
 go_wp2_with fail
 generalize (w1.alloc (Z #[J V 0,J V 0,K a9 0 c9] 38))=W at *
 refine Qb9 _ W g o n cp 1 (opi rfl) (opi rfl) (opi rfl) (opi rfl) (opi rfl) (opi rfl) (opi rfl) (opi rfl) (opi rfl) (opi rfl) rfl (by kernel_rfl)
  (by kernel_rfl) (by kernel_rfl) (by kernel_rfl) (by kernel_rfl) (by kernel_rfl) (by kernel_rfl) (by kernel_rfl) (by kernel_rfl) (by kernel_rfl) (by kernel_rfl) (by kernel_rfl)
  rfl rfl (by have:=H29.out.1; omega) (by have:=H29.out.2; omega) (by omega) HH.out.c18 ?_
 intro a W6 hfr h6 h7 bY hb6
 rw [if_neg hcp19] at h7
 obtain ⟨x0,x1,x2,x3,x4,x5,x6,rfl⟩:=hfr.lay9m (by exact (by decide:∀ s∈[39,40,41,42,43,44,45,6,7],s < 247)) h6 h7
 have HD:Hid (D6 w W6 w1.heap.size W.heap.size (Qbt 1 0 0 (K U 0 0)) (K a9 0 c9)):=HH.out.d6 bY hb6
 have y0:W6.cell? ⟨W.heap.size,0,U⟩=Q (J V 1):=Qai HD.out.bY 0 _ rfl
 have zY:W.heap.size < W6.heap.size:=HD.out.hs
 have HZ:=Qaa HH.out.sz
 have HBW2:=Qaa HH.out.bel
 have hsz:=HH.out.le
 clear hfr h6 h7 bY hb6
 simp only [Act.put,E,D,R]
 have HMW:Hid (MW w W6):=⟨HD.out.bM,HD.out.bN,HD.out.bel⟩
 have q0:=HC.out W6 HD.out.bel 0 (by have:=HNC.out; omega)
 rw [Nat.add_zero,h4] at q0
 have HBL:=Qaa HD.out.bel
 generalize n - 19=N at *
 generalize cp - 19=CP at *
 obtain ⟨hN10,hNC,hN5⟩:=HNC.out
 have HN5:=Qaa hN5
 have hN0i:(0:Int) < (N:Int):=by omega
 have hN10i:(10:Int)≤(N:Int):=by omega
 have hN9i:(9:Int) < (N:Int):=by omega
 have hN5i:(N:Int)≤5000:=by omega
 clear hN5
 by_cases e10:CP=10
 rotate_left
 simp only [if_neg e10] at KR
 rotate_left
 have e10n:N=10:=by omega
 subst e10 e10n
 simp only [Nat.sub_self,↓reduceIte] at KR
 all_goals (
  go_wp2_with fail
  with_reducible refine (KR.out _ HBL.out).mono ?_
  rintro e w2 ⟨rfl,HB2⟩
  have HBA:Hid (Below W6.heap.size W6 (w2.alloc (Z #[I true,J V as4,I gr,I rs,J V tm,I fam,I fwd,I ll,J V lt] 26))):=HB2.out.alloc HB2.out.size _
  have HMA:=Qaa (HMW.out.later HBA.out)
  have HBV:Hid (Below w.heap.size w (w2.alloc (Z #[I true,J V as4,I gr,I rs,J V tm,I fam,I fwd,I ll,J V lt] 26))):=HBL.out.trans (HBA.out.mono HBL.out.size)
  have q9:(w2.alloc (Z #[I true,J V as4,I gr,I rs,J V tm,I fam,I fwd,I ll,J V lt] 26)).cell? ⟨g,o+19+9,U⟩=Q (J .u8 ((bs.drop 19).getD 9 0:Int)):=HC.out _ HBV.out 9 (by omega)
  have q1:(w2.alloc (Z #[I true,J V as4,I gr,I rs,J V tm,I fam,I fwd,I ll,J V lt] 26)).cell? ⟨g,o+19+1,U⟩=Q (J .u8 ((bs.drop 19).getD 1 0:Int)):=HC.out _ HBV.out 1 (by omega)
  have q2:(w2.alloc (Z #[I true,J V as4,I gr,I rs,J V tm,I fam,I fwd,I ll,J V lt] 26)).cell? ⟨g,o+19+2,U⟩=Q (J .u8 ((bs.drop 19).getD 2 0:Int)):=HC.out _ HBV.out 2 (by omega)
  have hl9:=HLT.out 9
  have hl1:=HLT.out 1
  have hl2:=HLT.out 2
  generalize (bs.drop 19).getD 9 0=v9 at *
  generalize (bs.drop 19).getD 1 0=v1 at *
  generalize (bs.drop 19).getD 2 0=v2 at *
  have HZ9:g < (w2.alloc (Z #[I true,J V as4,I gr,I rs,J V tm,I fam,I fwd,I ll,J V lt] 26)).heap.size:=by have:=HBL.out.size; have:=HBA.out.size; omega
  have HCB:Hid ((w2.alloc (Z #[I true,J V as4,I gr,I rs,J V tm,I fam,I fwd,I ll,J V lt] 26)).heap[w2.heap.size]?=Q (Z #[I true,J V as4,I gr,I rs,J V tm,I fam,I fwd,I ll,J V lt] 26 (0,0))):=heap_alloc_new w2 _
  have HZY:Hid (W.heap.size < w2.heap.size):=by have:=HB2.out.size; show W.heap.size < w2.heap.size; omega
  have hsai:256 * (v1:Int)+(v2:Int)=(sa:Int):=by omega
  have HSA:=Qaa hsai
  clear hsai hsa
  have hbd:∀ m,Below ((w2.alloc (Z #[I true,J V as4,I gr,I rs,J V tm,I fam,I fwd,I ll,J V lt] 26))).heap.size ((w2.alloc (Z #[I true,J V as4,I gr,I rs,J V tm,I fam,I fwd,I ll,J V lt] 26))) (((w2.alloc (Z #[I true,J V as4,I gr,I rs,J V tm,I fam,I fwd,I ll,J V lt] 26))).drewN m):=fun m=>Qaj (Below.refl _ _) m
  have HDD:=Qaa hbd
  clear hbd
  go_wp2_with fail
  go_quiet (fail)
  rw [HSA.out]
  have HBV2:Hid (Below w.heap.size w ((w2.alloc (Z #[I true,J V as4,I gr,I rs,J V tm,I fam,I fwd,I ll,J V lt] 26)).drewN nq)):=HBV.out.trans ((HDD.out nq).mono HBV.out.size)
  have HMV:=Qaa (HMA.out.later (HDD.out nq))
  have HCV:Hid (((w2.alloc (Z #[I true,J V as4,I gr,I rs,J V tm,I fam,I fwd,I ll,J V lt] 26)).drewN nq).heap[w2.heap.size]?=Q (Z #[I true,J V as4,I gr,I rs,J V tm,I fam,I fwd,I ll,J V lt] 26 (0,0))):=HCB.out
  have HYV:Hid (((w2.alloc (Z #[I true,J V as4,I gr,I rs,J V tm,I fam,I fwd,I ll,J V lt] 26)).drewN nq).heap[W.heap.size]?=Q (Z (Qbt 1 0 0 (K U 0 0)) 40 (0,0))):=by
   show _=_
   rw [((HBA.out.trans ((HDD.out nq).mono HBA.out.size))).block _ zY]; exact HD.out.bY
  generalize (w2.alloc (Z #[I true,J V as4,I gr,I rs,J V tm,I fam,I fwd,I ll,J V lt] 26)).drewN nq=V1 at *
  have b0:V1.cell? ⟨w2.heap.size,0,U⟩=Q (I true):=Qai HCV.out 0 _ rfl
  have b1:V1.cell? ⟨w2.heap.size,1,U⟩=Q (J V as4):=Qai HCV.out 1 _ rfl
  have zV1:w2.heap.size < V1.heap.size:=(Array.getElem?_eq_some_iff.1 HCV.out).1
  clear q9 q1 q2 h9i
  obtain ⟨c3,c4⟩:=HC3.out _ HBV2.out
  rcases HHI.out with h1i | ⟨h1i,h2i⟩
  all_goals (
   go_wp2_with fail
   have zWw:w.heap.size≤W.heap.size:=by have:=HBW2.out.size; omega
   refine Qmr _ V1 w2.heap.size W.heap.size g (o+19) _ _ v3 v4 (256 * v3+v4) ii _ ⟨true,as4,gr,rs,tm,fam,fwd,ll,lt⟩ (opi rfl) (opi rfl) (opi rfl) (opi rfl) (opi rfl) (opi rfl) (opi rfl) (opi rfl) (opi rfl) (opi rfl) (opi rfl) (opi rfl) (opi rfl) (opi rfl) (opi rfl) (opi rfl) (opi rfl) (opi rfl) (opi rfl) rfl (by kernel_rfl) (by kernel_rfl) (by kernel_rfl) (by kernel_rfl) (by kernel_rfl) (by kernel_rfl) (by kernel_rfl) (by kernel_rfl) (by kernel_rfl) (by kernel_rfl) (by kernel_rfl) (by kernel_rfl) (by kernel_rfl) (by kernel_rfl) (by kernel_rfl) (by kernel_rfl) (by kernel_rfl) (by kernel_rfl) (by kernel_rfl) (by kernel_rfl) (by kernel_rfl)
    rfl rfl rfl rfl rfl (by omega) (by have:=HN5.out; omega) (by omega) hl3 hl4 rfl hnum c3 c4 (by omega) (by have:=HZY.out; omega) HCV.out HYV.out (fun X hX=>KNU.out X (HBV2.out.trans (hX.below _ HBV2.out.size (fun x e=>by omega)))) ?_
   intro a W8 W9 hfr hb8 hk9 b9 z9
   obtain ⟨z0',z1',z2',z3',z4',z5',z6',z7',z8',z9',z10',z11',z12',z13',z14',z15',z16',z17',rfl⟩:=hfr.lay18 (by exact (by decide:∀ s∈[109,110,111,112,113,114,115,116,117,118,119,120,121,122,123,124,125,126],s < 247))
   have keepB:∀ j,j < V1.heap.size→j≠W.heap.size→W9.heap[j]?=V1.heap[j]?:=fun j hj hne=>by rw [hk9.block j (by have:=hb8.size; omega) hne,hb8.block j hj]
   have zWS:w.heap.size+1 < V1.heap.size:=by have:=HZY.out; have:=HBW2.out.size; have:=HZ.out; omega
   have zW2:w.heap.size+1 < W.heap.size:=by have:=HZ.out; omega
   have H9M:Hid (W9.heap[w.heap.size]?=Q (Z zM 40 (0,0))):=by show _=_; rw [keepB _ (by omega) (by omega)]; exact HMV.out.bM
   have H9N:Hid (W9.heap[w.heap.size+1]?=Q (Z #[J V 0,J V 0,K U 0 0] 38 (0,0))):=by show _=_; rw [keepB _ (by omega) (by omega)]; exact HMV.out.bN
   have H9Y:=Qaa b9
   have B9:Hid (Below w.heap.size w W9):=HBV2.out.trans ((hb8.mono HBV2.out.size).trans (hk9.below _ (by have:=HBV2.out.size; have:=hb8.size; omega) (fun x e=>by omega)))
   clear hfr hb8 hk9 b9 z9 keepB c3 c4 b0 b1
   simp only [Act.put,E,D,R]
   obtain ⟨C,hC⟩:∃ C,C=(openMsg 1 (Qce (as4) (256 * v3+v4) ii ⟨true,as4,gr,rs,tm,fam,fwd,ll,lt⟩)):=⟨_,rfl⟩
   have HMC:MC C:=by rw [hC]; exact (MC.openMsg 1 (OC.made _ _ _ _))
   obtain ⟨W5,HLD,HST,HX,HG⟩:=Qet (C:=C) (Y:=W.heap.size) H9M.out H9N.out (by rw [hC]; exact H9Y.out) HMC B9.out
   obtain ⟨_,r0,r1,r2,f0,f1,f2⟩:=HX.out
   have HCE:=Qaa hC
   clear hC
   go_wp2_with fail
   refine Qbq _ (.pointer (Q ⟨W.heap.size,0,U⟩)) (.agg C) (by rfl) HLD.out ?_
   go_wp2_with fail
   refine Qam _ _ (.pointer (Q ⟨w.heap.size,0,U⟩)) (.agg C) (by rfl) (by rfl) HST.out ?_
   go_wp2_with fail
   refine bodyPost_ret (v:=.tuple #[.agg C,.agg #[J V 0,J V 0,K U 0 0]]) (Qar Tryz.results8 _ _ w.heap.size (w.heap.size+1) C #[J V 0,J V 0,K U 0 0] rfl rfl HG.out.rM HG.out.rN Tryz.underlying40 rfl (by rw [HMC.1]; exact infoM) Tryz.underlying38 rfl infoN) rfl ⟨by rw [HCE.out],HG.out.bel⟩
  )
 )
end
section
attribute [local go_sem ↓] Qbe Qba keptM_alloc Qbb
theorem Qyl (g o n cp:Nat)(bs:List Nat)(w:World)(hn:bs.length=n)(hn29:29≤n)(hl:n≤5000)(hcap:n≤cp)(h:BRd w (Q ⟨g,o,U⟩) bs)(hr:Qa6 bs=(n,0,0,[]))(hk1:bs.getD 18 0=1)(h4:(bs.drop 19).getD 0 0=4)(cc:Cp)(hrc:Qfc ((bs.drop 19).drop 10)=Q cc)(h9:(bs.drop 19).getD 9 0=n - 19 - 10)(sa:Nat)(hsa:sa=256 * (bs.drop 19).getD 1 0+(bs.drop 19).getD 2 0)(h0:sa≠0)(hf:cc.four=false) :
  Calls Tryz.prog 8 #[K (Q ⟨g,o,U⟩) n cp] w fun e w'=>e=.returned (.tuple #[.agg (openMsg 1 (Qce ((sa:Int)) (256 * (bs.drop 19).getD 3 0+(bs.drop 19).getD 4 0) (num fun i=>(bs.drop 19).getD (5+i) 0) cc)),.agg #[J V 0,J V 0,K U 0 0]])∧Below w.heap.size w w':=by
 have KH:=Qb5 g o n cp 10 bs w 1 hn (by omega) (by omega) hl hcap h hr (by rw [hk1]; rfl)
 have hF:=KH
 obtain ⟨c18,zg,HK,HC,HLT,HNC,H29,hcp19,hz0,hB,HBl,KE⟩:=hF
 unfold NtK at KE
 have KR:=Qrk KH (by omega) _ hrc
 simp only [Qpy,Qga,Option.getD_some,Option.isSome_some] at KR
 have h9i:(((bs.drop 19).getD 9 0:Int) != ((n - 19:Nat):Int) - 10)=false:=by rw [bne_eq_false_iff_eq]; omega
 have KNU:Hid (∀ X,Below w.heap.size w X→Calls Tryz.prog 25 #[K (Q ⟨g,o+19+5,U⟩) (n - 19 - 5) (cp - 19 - 5)] X fun e w'=>e=.returned (J V ((num fun i=>(bs.drop 19).getD (5+i) 0:Nat):Int))∧∃ k,w'=X.drewN k):=fun X hX =>
  Qf5 g (o+19+5) _ _ _ X (by omega) (fun i _=>Qau hB.2 _) (fun i hi=>by rw [Nat.add_assoc (o+19) 5 i]; exact HC.out X hX (5+i) (by omega))
 have hnum:(num fun i=>(bs.drop 19).getD (5+i) 0) < 4294967296:=by
  have n0:=HLT.out (5+0)
  have n1:=HLT.out (5+1)
  have n2:=HLT.out (5+2)
  have n3:=HLT.out (5+3)
  unfold num
  dsimp only
  omega
 have HC3:Hid (∀ X,Below w.heap.size w X→X.cell? ⟨g,o+19+3,U⟩=Q (J .u8 ((bs.drop 19).getD 3 0:Int))∧X.cell? ⟨g,o+19+4,U⟩=Q (J .u8 ((bs.drop 19).getD 4 0:Int))):=fun X hX=>⟨HC.out X hX 3 (by omega),HC.out X hX 4 (by omega)⟩
 have hl3:=HLT.out 3
 have hl4:=HLT.out 4
 have h0i:((sa:Int) == 0)=false:=by rw [beq_eq_false_iff_ne]; omega
 clear KE h0 hrc h9 KH h hcap hr hn hk1 hl hn29 hB HBl
 obtain ⟨four,as4,gr,rs,tm,fam,fwd,ll,lt⟩:=cc
 simp only at KR hf ⊢
 subst hf
 generalize (num fun i=>(bs.drop 19).getD (5+i) 0)=ii at *
 generalize (bs.drop 19).getD 3 0=v3 at *
 generalize (bs.drop 19).getD 4 0=v4 at *
 go_enter Tryz.func8,Tryz.ntmps8
 go_wp2_with (refine Qah _ (Qav w) ?_)
 show Calls Tryz.prog 15 #[K (Q ⟨g,o,U⟩) n cp] (dW w) _
 with_reducible refine HK.out.mono ?_
 rintro e w1 ⟨a9,c9,rfl,HB⟩
 have HH:=Qaa (Qen a9 0 c9 HB.out zg c18)
 go_wp2_with fail
 generalize (w1.alloc (Z #[J V 0,J V 0,K a9 0 c9] 38))=W at *
 refine Qb9 _ W g o n cp 1 (opi rfl) (opi rfl) (opi rfl) (opi rfl) (opi rfl) (opi rfl) (opi rfl) (opi rfl) (opi rfl) (opi rfl) rfl (by kernel_rfl)
  (by kernel_rfl) (by kernel_rfl) (by kernel_rfl) (by kernel_rfl) (by kernel_rfl) (by kernel_rfl) (by kernel_rfl) (by kernel_rfl) (by kernel_rfl) (by kernel_rfl) (by kernel_rfl)
  rfl rfl (by have:=H29.out.1; omega) (by have:=H29.out.2; omega) (by omega) HH.out.c18 ?_
 intro a W6 hfr h6 h7 bY hb6
 rw [if_neg hcp19] at h7
 obtain ⟨x0,x1,x2,x3,x4,x5,x6,rfl⟩:=hfr.lay9m (by exact (by decide:∀ s∈[39,40,41,42,43,44,45,6,7],s < 247)) h6 h7
 have HD:Hid (D6 w W6 w1.heap.size W.heap.size (Qbt 1 0 0 (K U 0 0)) (K a9 0 c9)):=HH.out.d6 bY hb6
 have y0:W6.cell? ⟨W.heap.size,0,U⟩=Q (J V 1):=Qai HD.out.bY 0 _ rfl
 have zY:W.heap.size < W6.heap.size:=HD.out.hs
 have HZ:=Qaa HH.out.sz
 have HBW2:=Qaa HH.out.bel
 have hsz:=HH.out.le
 clear hfr h6 h7 bY hb6
 simp only [Act.put,E,D,R]
 have HMW:Hid (MW w W6):=⟨HD.out.bM,HD.out.bN,HD.out.bel⟩
 have q0:=HC.out W6 HD.out.bel 0 (by have:=HNC.out; omega)
 rw [Nat.add_zero,h4] at q0
 have HBL:=Qaa HD.out.bel
 generalize n - 19=N at *
 generalize cp - 19=CP at *
 obtain ⟨hN10,hNC,hN5⟩:=HNC.out
 have HN5:=Qaa hN5
 have hN0i:(0:Int) < (N:Int):=by omega
 have hN10i:(10:Int)≤(N:Int):=by omega
 have hN9i:(9:Int) < (N:Int):=by omega
 have hN5i:(N:Int)≤5000:=by omega
 clear hN5
 by_cases e10:CP=10
 rotate_left
 simp only [if_neg e10] at KR
 rotate_left
 have e10n:N=10:=by omega
 subst e10 e10n
 simp only [Nat.sub_self,↓reduceIte] at KR
 all_goals (
  go_wp2_with fail
  with_reducible refine (KR.out _ HBL.out).mono ?_
  rintro e w2 ⟨rfl,HB2⟩
  have HBA:Hid (Below W6.heap.size W6 (w2.alloc (Z #[I false,J V as4,I gr,I rs,J V tm,I fam,I fwd,I ll,J V lt] 26))):=HB2.out.alloc HB2.out.size _
  have HMA:=Qaa (HMW.out.later HBA.out)
  have HBV:Hid (Below w.heap.size w (w2.alloc (Z #[I false,J V as4,I gr,I rs,J V tm,I fam,I fwd,I ll,J V lt] 26))):=HBL.out.trans (HBA.out.mono HBL.out.size)
  have q9:(w2.alloc (Z #[I false,J V as4,I gr,I rs,J V tm,I fam,I fwd,I ll,J V lt] 26)).cell? ⟨g,o+19+9,U⟩=Q (J .u8 ((bs.drop 19).getD 9 0:Int)):=HC.out _ HBV.out 9 (by omega)
  have q1:(w2.alloc (Z #[I false,J V as4,I gr,I rs,J V tm,I fam,I fwd,I ll,J V lt] 26)).cell? ⟨g,o+19+1,U⟩=Q (J .u8 ((bs.drop 19).getD 1 0:Int)):=HC.out _ HBV.out 1 (by omega)
  have q2:(w2.alloc (Z #[I false,J V as4,I gr,I rs,J V tm,I fam,I fwd,I ll,J V lt] 26)).cell? ⟨g,o+19+2,U⟩=Q (J .u8 ((bs.drop 19).getD 2 0:Int)):=HC.out _ HBV.out 2 (by omega)
  have hl9:=HLT.out 9
  have hl1:=HLT.out 1
  have hl2:=HLT.out 2
  generalize (bs.drop 19).getD 9 0=v9 at *
  generalize (bs.drop 19).getD 1 0=v1 at *
  generalize (bs.drop 19).getD 2 0=v2 at *
  have HZ9:g < (w2.alloc (Z #[I false,J V as4,I gr,I rs,J V tm,I fam,I fwd,I ll,J V lt] 26)).heap.size:=by have:=HBL.out.size; have:=HBA.out.size; omega
  have HCB:Hid ((w2.alloc (Z #[I false,J V as4,I gr,I rs,J V tm,I fam,I fwd,I ll,J V lt] 26)).heap[w2.heap.size]?=Q (Z #[I false,J V as4,I gr,I rs,J V tm,I fam,I fwd,I ll,J V lt] 26 (0,0))):=heap_alloc_new w2 _
  have HZY:Hid (W.heap.size < w2.heap.size):=by have:=HB2.out.size; show W.heap.size < w2.heap.size; omega
  have hsai:256 * (v1:Int)+(v2:Int)=(sa:Int):=by omega
  have HSA:=Qaa hsai
  clear hsai hsa
  have hbd:∀ m,Below ((w2.alloc (Z #[I false,J V as4,I gr,I rs,J V tm,I fam,I fwd,I ll,J V lt] 26))).heap.size ((w2.alloc (Z #[I false,J V as4,I gr,I rs,J V tm,I fam,I fwd,I ll,J V lt] 26))) (((w2.alloc (Z #[I false,J V as4,I gr,I rs,J V tm,I fam,I fwd,I ll,J V lt] 26))).drewN m):=fun m=>Qaj (Below.refl _ _) m
  have HDD:=Qaa hbd
  clear hbd
  go_wp2_with fail
  go_quiet (fail)
  rw [HSA.out]
  have HBV2:Hid (Below w.heap.size w ((w2.alloc (Z #[I false,J V as4,I gr,I rs,J V tm,I fam,I fwd,I ll,J V lt] 26)).drewN nq)):=HBV.out.trans ((HDD.out nq).mono HBV.out.size)
  have HMV:=Qaa (HMA.out.later (HDD.out nq))
  have HCV:Hid (((w2.alloc (Z #[I false,J V as4,I gr,I rs,J V tm,I fam,I fwd,I ll,J V lt] 26)).drewN nq).heap[w2.heap.size]?=Q (Z #[I false,J V as4,I gr,I rs,J V tm,I fam,I fwd,I ll,J V lt] 26 (0,0))):=HCB.out
  have HYV:Hid (((w2.alloc (Z #[I false,J V as4,I gr,I rs,J V tm,I fam,I fwd,I ll,J V lt] 26)).drewN nq).heap[W.heap.size]?=Q (Z (Qbt 1 0 0 (K U 0 0)) 40 (0,0))):=by
   show _=_
   rw [((HBA.out.trans ((HDD.out nq).mono HBA.out.size))).block _ zY]; exact HD.out.bY
  generalize (w2.alloc (Z #[I false,J V as4,I gr,I rs,J V tm,I fam,I fwd,I ll,J V lt] 26)).drewN nq=V1 at *
  have b0:V1.cell? ⟨w2.heap.size,0,U⟩=Q (I false):=Qai HCV.out 0 _ rfl
  have b1:V1.cell? ⟨w2.heap.size,1,U⟩=Q (J V as4):=Qai HCV.out 1 _ rfl
  have zV1:w2.heap.size < V1.heap.size:=(Array.getElem?_eq_some_iff.1 HCV.out).1
  clear q9 q1 q2 h9i
  obtain ⟨c3,c4⟩:=HC3.out _ HBV2.out
  go_wp2_with fail
  have zWw:w.heap.size≤W.heap.size:=by have:=HBW2.out.size; omega
  refine Qmr _ V1 w2.heap.size W.heap.size g (o+19) _ _ v3 v4 (256 * v3+v4) ii _ ⟨false,as4,gr,rs,tm,fam,fwd,ll,lt⟩ (opi rfl) (opi rfl) (opi rfl) (opi rfl) (opi rfl) (opi rfl) (opi rfl) (opi rfl) (opi rfl) (opi rfl) (opi rfl) (opi rfl) (opi rfl) (opi rfl) (opi rfl) (opi rfl) (opi rfl) (opi rfl) (opi rfl) rfl (by kernel_rfl) (by kernel_rfl) (by kernel_rfl) (by kernel_rfl) (by kernel_rfl) (by kernel_rfl) (by kernel_rfl) (by kernel_rfl) (by kernel_rfl) (by kernel_rfl) (by kernel_rfl) (by kernel_rfl) (by kernel_rfl) (by kernel_rfl) (by kernel_rfl) (by kernel_rfl) (by kernel_rfl) (by kernel_rfl) (by kernel_rfl) (by kernel_rfl) (by kernel_rfl)
   rfl rfl rfl rfl rfl (by omega) (by have:=HN5.out; omega) (by omega) hl3 hl4 rfl hnum c3 c4 (by omega) (by have:=HZY.out; omega) HCV.out HYV.out (fun X hX=>KNU.out X (HBV2.out.trans (hX.below _ HBV2.out.size (fun x e=>by omega)))) ?_
  intro a W8 W9 hfr hb8 hk9 b9 z9
  obtain ⟨z0',z1',z2',z3',z4',z5',z6',z7',z8',z9',z10',z11',z12',z13',z14',z15',z16',z17',rfl⟩:=hfr.lay18 (by exact (by decide:∀ s∈[109,110,111,112,113,114,115,116,117,118,119,120,121,122,123,124,125,126],s < 247))
  have keepB:∀ j,j < V1.heap.size→j≠W.heap.size→W9.heap[j]?=V1.heap[j]?:=fun j hj hne=>by rw [hk9.block j (by have:=hb8.size; omega) hne,hb8.block j hj]
  have zWS:w.heap.size+1 < V1.heap.size:=by have:=HZY.out; have:=HBW2.out.size; have:=HZ.out; omega
  have zW2:w.heap.size+1 < W.heap.size:=by have:=HZ.out; omega
  have H9M:Hid (W9.heap[w.heap.size]?=Q (Z zM 40 (0,0))):=by show _=_; rw [keepB _ (by omega) (by omega)]; exact HMV.out.bM
  have H9N:Hid (W9.heap[w.heap.size+1]?=Q (Z #[J V 0,J V 0,K U 0 0] 38 (0,0))):=by show _=_; rw [keepB _ (by omega) (by omega)]; exact HMV.out.bN
  have H9Y:=Qaa b9
  have B9:Hid (Below w.heap.size w W9):=HBV2.out.trans ((hb8.mono HBV2.out.size).trans (hk9.below _ (by have:=HBV2.out.size; have:=hb8.size; omega) (fun x e=>by omega)))
  clear hfr hb8 hk9 b9 z9 keepB c3 c4 b0 b1
  simp only [Act.put,E,D,R]
  obtain ⟨C,hC⟩:∃ C,C=(openMsg 1 (Qce ((sa:Int)) (256 * v3+v4) ii ⟨false,as4,gr,rs,tm,fam,fwd,ll,lt⟩)):=⟨_,rfl⟩
  have HMC:MC C:=by rw [hC]; exact (MC.openMsg 1 (OC.made _ _ _ _))
  obtain ⟨W5,HLD,HST,HX,HG⟩:=Qet (C:=C) (Y:=W.heap.size) H9M.out H9N.out (by rw [hC]; exact H9Y.out) HMC B9.out
  obtain ⟨_,r0,r1,r2,f0,f1,f2⟩:=HX.out
  have HCE:=Qaa hC
  clear hC
  go_wp2_with fail
  refine Qbq _ (.pointer (Q ⟨W.heap.size,0,U⟩)) (.agg C) (by rfl) HLD.out ?_
  go_wp2_with fail
  refine Qam _ _ (.pointer (Q ⟨w.heap.size,0,U⟩)) (.agg C) (by rfl) (by rfl) HST.out ?_
  go_wp2_with fail
  refine bodyPost_ret (v:=.tuple #[.agg C,.agg #[J V 0,J V 0,K U 0 0]]) (Qar Tryz.results8 _ _ w.heap.size (w.heap.size+1) C #[J V 0,J V 0,K U 0 0] rfl rfl HG.out.rM HG.out.rN Tryz.underlying40 rfl (by rw [HMC.1]; exact infoM) Tryz.underlying38 rfl infoN) rfl ⟨by rw [HCE.out],HG.out.bel⟩
 )
end
