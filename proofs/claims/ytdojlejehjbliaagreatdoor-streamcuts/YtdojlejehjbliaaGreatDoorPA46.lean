import Derived.Test.YtdojlejehjbliaaGreatDoorPA44
namespace Go.Proofs.YtdojlejehjbliaaGreatDoor
set_option maxHeartbeats 4000000
open _root_.Go.Value renaming slice → I,int → U
open _root_.Option renaming none → J,some → V
open _root_.List renaming setIfInBounds_toArray → Z,set_cons_zero → K,set_cons_succ → E
open _root_.Go.IntKind renaming i64 → X
open _root_.Go.Obj renaming cells → D
open _root_.Go.Proofs.Tryz renaming prog → R
open _root_.Go.RowKit.Below renaming refl → T
open Go.RowKit
set_option maxRecDepth 100000
section
attribute [local go_sem ↓] Qbe Qba keptM_alloc Qbb
theorem Qyg (g o n cp:Nat)(bs:List Nat)(w:World)(hn:bs.length=n)(hn23:23≤n)(hl:n≤5000)(hcap:n≤cp)(h:BRd w (V ⟨g,o,J⟩) bs)(hr:Qa6 bs=(n,0,0,[]))(hk2:bs.getD 18 0=2)(G:Nat)(hG:G=256 * (bs.drop 19).getD 0 0+(bs.drop 19).getD 1 0)(hu:n - 19 < G+4) :
  Calls R 8 #[I (V ⟨g,o,J⟩) n cp] w fun e w'=>Qdd w w' e 3 1 []∧Below w.heap.size w w':=by
 have KH:=Qb5 g o n cp 4 bs w 2 hn (by omega) (by omega) hl hcap h hr (by rw [hk2]; rfl)
 have hF:=KH
 obtain ⟨c18,zg,HK,HC,HLT,HNC,H29,hcp19,hz0,hB,HBl,KE⟩:=hF
 unfold NtK at KE
 have hui:((n - 19:Nat):Int) < (G:Int)+4:=by omega
 clear hu KH h hcap hr hn hk2 hl hn23 hB HBl
 unfold Qdd Qby
 go_enter Tryz.func8,Tryz.ntmps8
 go_wp2_with (refine Qah _ (Qav w) ?_)
 show Calls R 15 #[I (V ⟨g,o,J⟩) n cp] (dW w) _
 with_reducible refine HK.out.mono ?_
 rintro e w1 ⟨a9,c9,rfl,HB⟩
 have HH:=Qaa (Qen a9 0 c9 HB.out zg c18)
 go_wp2_with fail
 generalize (w1.alloc (D #[U X 0,U X 0,I a9 0 c9] 38))=W at *
 refine Qb9 _ W g o n cp 2 (opi rfl) (opi rfl) (opi rfl) (opi rfl) (opi rfl) (opi rfl) (opi rfl) (opi rfl) (opi rfl) (opi rfl) rfl (by kernel_rfl)
  (by kernel_rfl) (by kernel_rfl) (by kernel_rfl) (by kernel_rfl) (by kernel_rfl) (by kernel_rfl) (by kernel_rfl) (by kernel_rfl) (by kernel_rfl) (by kernel_rfl) (by kernel_rfl)
  rfl rfl (by have:=H29.out.1; omega) (by have:=H29.out.2; omega) (by omega) HH.out.c18 ?_
 intro a W6 hfr h6 h7 bY hb6
 rw [if_neg hcp19] at h7
 obtain ⟨x0,x1,x2,x3,x4,x5,x6,rfl⟩:=hfr.lay9m (by exact (by decide:∀ s∈[39,40,41,42,43,44,45,6,7],s < 247)) h6 h7
 have HD:Hid (D6 w W6 w1.heap.size W.heap.size (Qbt 2 0 0 (I J 0 0)) (I a9 0 c9)):=HH.out.d6 bY hb6
 have y0:W6.cell? ⟨W.heap.size,0,J⟩=V (U X 2):=Qai HD.out.bY 0 _ rfl
 have zY:W.heap.size < W6.heap.size:=HD.out.hs
 have HZ:=Qaa HH.out.sz
 have HBW2:=Qaa HH.out.bel
 have hsz:=HH.out.le
 clear hfr h6 h7 bY hb6
 simp only [Act.put,Z,K,E]
 have HMW:Hid (MW w W6):=⟨HD.out.bM,HD.out.bN,HD.out.bel⟩
 have q0:=HC.out W6 HD.out.bel 0 (by have:=HNC.out; omega)
 have q1:=HC.out W6 HD.out.bel 1 (by have:=HNC.out; omega)
 rw [Nat.add_zero] at q0
 have HBL:=Qaa HD.out.bel
 have HYL:=Qaa HD.out.bY
 generalize n - 19=N at *
 generalize cp - 19=CP at *
 have hl0:=HLT.out 0
 have hl1:=HLT.out 1
 generalize (bs.drop 19).getD 0 0=v0 at *
 generalize (bs.drop 19).getD 1 0=v1 at *
 have HG:Hid (256 * (v0:Int)+(v1:Int)=(G:Int)):=by show _=_; omega
 have hGi:(G:Int) < 65536:=by omega
 have HGn:Hid (G < 65536):=by show _ < _; omega
 clear hG
 obtain ⟨hN4,hNC,hN5⟩:=HNC.out
 have hN0i:(0:Int) < (N:Int):=by omega
 have hN1i:(1:Int) < (N:Int):=by omega
 have hN5i:(N:Int)≤5000:=by omega
 have HZg:g < W6.heap.size:=by have:=HBL.out.size; omega
 clear hN5
 have hbd:∀ m,Below W6.heap.size W6 (W6.drewN m):=fun m=>Qaj (T _ _) m
 have HDD:=Qaa hbd
 clear hbd
 go_wp2_with fail
 go_quiet (fail)
 rw [HG.out]
 have HBV:Hid (Below w.heap.size w (W6.drewN nq)):=HBL.out.trans ((HDD.out nq).mono HBL.out.size)
 have HMV:=Qaa (HMW.out.later (HDD.out nq))
 have HYV:Hid ((W6.drewN nq).heap[W.heap.size]?=V (D (Qbt 2 0 0 (I J 0 0)) 40 (0,0))):=HYL.out
 have HZV:g < (W6.drewN nq).heap.size:=HZg
 have zYV:W.heap.size < (W6.drewN nq).heap.size:=zY
 generalize W6.drewN nq=V0 at *
 clear q0 q1
 clear HC HLT
 go_wp2_with fail
 go_wp2_with (refine Qaw _ (Qbp _) ?_)
 refine (KE.out 3 _ 1 HMV.out).mono ?_
 rintro e w3 ⟨a8,c8,W5,rfl,HST,HX,HF⟩
 obtain ⟨_,r0,r1,r2,f0,f1,f2⟩:=HX.out
 go_wp2_with (refine Qam _ _ (.pointer (V ⟨w.heap.size,0,J⟩)) (.agg zM) (by rfl) (by rfl) HST.out ?_)
 refine bodyPost_ret (v:=.tuple #[.agg zM,.agg #[U X 3,U X 1,I a8 0 c8]]) (Qar Tryz.results8 _ _ w.heap.size (w.heap.size+1) zM #[U X 3,U X 1,I a8 0 c8] rfl rfl HF.out.rM HF.out.rN Tryz.underlying40 rfl infoM Tryz.underlying38 rfl infoN) rfl ⟨?_,HF.out.bel⟩
 exact ⟨_,rfl,a8,c8,rfl,HF.out.own⟩
theorem Qzs (g o n cp:Nat)(bs:List Nat)(w:World)(hn:bs.length=n)(hn23:23≤n)(hl:n≤5000)(hcap:n≤cp)(h:BRd w (V ⟨g,o,J⟩) bs)(hr:Qa6 bs=(n,0,0,[]))(hk2:bs.getD 18 0=2)(G:Nat)(hG:G=256 * (bs.drop 19).getD 0 0+(bs.drop 19).getD 1 0)(A:Nat)(hA:A=256 * (bs.drop 19).getD (2+G) 0+(bs.drop 19).getD (3+G) 0)(hu:G+4≤n - 19)(hu2:n - 19 < G+4+A) :
  Calls R 8 #[I (V ⟨g,o,J⟩) n cp] w fun e w'=>Qdd w w' e 3 1 []∧Below w.heap.size w w':=by
 have KH:=Qb5 g o n cp 4 bs w 2 hn (by omega) (by omega) hl hcap h hr (by rw [hk2]; rfl)
 have hF:=KH
 obtain ⟨c18,zg,HK,HC,HLT,HNC,H29,hcp19,hz0,hB,HBl,KE⟩:=hF
 unfold NtK at KE
 have hui:decide (n - 19 < 4+G)=false:=decide_eq_false (by omega)
 have HGA:Hid (A < 65536):=by
  have a1:=HLT.out (2+G)
  have a2:=HLT.out (3+G)
  show A < 65536
  omega
 clear hu KH h hcap hr hn hk2 hl hn23 hB HBl
 unfold Qdd Qby
 go_enter Tryz.func8,Tryz.ntmps8
 go_wp2_with (refine Qah _ (Qav w) ?_)
 show Calls R 15 #[I (V ⟨g,o,J⟩) n cp] (dW w) _
 with_reducible refine HK.out.mono ?_
 rintro e w1 ⟨a9,c9,rfl,HB⟩
 have HH:=Qaa (Qen a9 0 c9 HB.out zg c18)
 go_wp2_with fail
 generalize (w1.alloc (D #[U X 0,U X 0,I a9 0 c9] 38))=W at *
 refine Qb9 _ W g o n cp 2 (opi rfl) (opi rfl) (opi rfl) (opi rfl) (opi rfl) (opi rfl) (opi rfl) (opi rfl) (opi rfl) (opi rfl) rfl (by kernel_rfl)
  (by kernel_rfl) (by kernel_rfl) (by kernel_rfl) (by kernel_rfl) (by kernel_rfl) (by kernel_rfl) (by kernel_rfl) (by kernel_rfl) (by kernel_rfl) (by kernel_rfl) (by kernel_rfl)
  rfl rfl (by have:=H29.out.1; omega) (by have:=H29.out.2; omega) (by omega) HH.out.c18 ?_
 intro a W6 hfr h6 h7 bY hb6
 rw [if_neg hcp19] at h7
 obtain ⟨x0,x1,x2,x3,x4,x5,x6,rfl⟩:=hfr.lay9m (by exact (by decide:∀ s∈[39,40,41,42,43,44,45,6,7],s < 247)) h6 h7
 have HD:Hid (D6 w W6 w1.heap.size W.heap.size (Qbt 2 0 0 (I J 0 0)) (I a9 0 c9)):=HH.out.d6 bY hb6
 have y0:W6.cell? ⟨W.heap.size,0,J⟩=V (U X 2):=Qai HD.out.bY 0 _ rfl
 have zY:W.heap.size < W6.heap.size:=HD.out.hs
 have HZ:=Qaa HH.out.sz
 have HBW2:=Qaa HH.out.bel
 have hsz:=HH.out.le
 clear hfr h6 h7 bY hb6
 simp only [Act.put,Z,K,E]
 have HMW:Hid (MW w W6):=⟨HD.out.bM,HD.out.bN,HD.out.bel⟩
 have q0:=HC.out W6 HD.out.bel 0 (by have:=HNC.out; omega)
 have q1:=HC.out W6 HD.out.bel 1 (by have:=HNC.out; omega)
 rw [Nat.add_zero] at q0
 have HBL:=Qaa HD.out.bel
 have HYL:=Qaa HD.out.bY
 generalize n - 19=N at *
 generalize cp - 19=CP at *
 have hl0:=HLT.out 0
 have hl1:=HLT.out 1
 generalize (bs.drop 19).getD 0 0=v0 at *
 generalize (bs.drop 19).getD 1 0=v1 at *
 have HG:Hid (256 * (v0:Int)+(v1:Int)=(G:Int)):=by show _=_; omega
 have hGi:(G:Int) < 65536:=by omega
 have HGn:Hid (G < 65536):=by show _ < _; omega
 clear hG
 obtain ⟨hN4,hNC,hN5⟩:=HNC.out
 have hN0i:(0:Int) < (N:Int):=by omega
 have hN1i:(1:Int) < (N:Int):=by omega
 have hN5i:(N:Int)≤5000:=by omega
 have HZg:g < W6.heap.size:=by have:=HBL.out.size; omega
 clear hN5
 have hbd:∀ m,Below W6.heap.size W6 (W6.drewN m):=fun m=>Qaj (T _ _) m
 have HDD:=Qaa hbd
 clear hbd
 go_wp2_with fail
 go_quiet (fail)
 rw [HG.out]
 have HBV:Hid (Below w.heap.size w (W6.drewN nq)):=HBL.out.trans ((HDD.out nq).mono HBL.out.size)
 have HMV:=Qaa (HMW.out.later (HDD.out nq))
 have HYV:Hid ((W6.drewN nq).heap[W.heap.size]?=V (D (Qbt 2 0 0 (I J 0 0)) 40 (0,0))):=HYL.out
 have HZV:g < (W6.drewN nq).heap.size:=HZg
 have zYV:W.heap.size < (W6.drewN nq).heap.size:=zY
 generalize W6.drewN nq=V0 at *
 clear q0 q1
 obtain ⟨G2,hG2n⟩:∃ G2,G2=2+G:=⟨_,rfl⟩
 obtain ⟨G3,hG3n⟩:∃ G3,G3=3+G:=⟨_,rfl⟩
 obtain ⟨G4,hG4n⟩:∃ G4,G4=4+G:=⟨_,rfl⟩
 have hG2:(2:Int)+(G:Int)=(G2:Int):=by omega
 have hG3:(3:Int)+(G:Int)=(G3:Int):=by omega
 have hG4:(4:Int)+(G:Int)=(G4:Int):=by omega
 have hG4':(G:Int)+4=(G4:Int):=by omega
 rw [← hG4n] at hui
 have huN:G4≤N:=by
  have:=of_decide_eq_false hui
  omega
 have q2:=HC.out V0 HBV.out (2+G) (by omega)
 have q3:=HC.out V0 HBV.out (3+G) (by omega)
 rw [← hG2n] at q2 hA
 rw [← hG3n] at q3 hA
 have hl2:=HLT.out G2
 have hl3:=HLT.out G3
 generalize (bs.drop 19).getD G2 0=v2 at *
 generalize (bs.drop 19).getD G3 0=v3 at *
 have HA:Hid (256 * (v2:Int)+(v3:Int)=(A:Int)):=by show _=_; omega
 clear hA
 have hG2N:G2 < N:=by omega
 have hG3N:G3 < N:=by omega
 have hG4i:(G4:Int)≤70000:=by omega
 have HNs:Hid (G2=2+G∧G3=3+G∧G4=4+G):=⟨hG2n,hG3n,hG4n⟩
 have HuN:=Qaa huN
 clear hG2n hG3n hG4n huN
 have hbd:∀ m,Below V0.heap.size V0 (V0.drewN m):=fun m=>Qaj (T _ _) m
 have HDE:=Qaa hbd
 clear hbd
 go_wp2_with fail
 go_quiet (fail)
 rw [HA.out]
 have HBX:Hid (Below w.heap.size w (V0.drewN nq)):=HBV.out.trans ((HDE.out nq).mono HBV.out.size)
 have HMX:=Qaa (HMV.out.later (HDE.out nq))
 have HYX:Hid ((V0.drewN nq).heap[W.heap.size]?=V (D (Qbt 2 0 0 (I J 0 0)) 40 (0,0))):=HYV.out
 have HZX:g < (V0.drewN nq).heap.size:=HZV
 have zYX:W.heap.size < (V0.drewN nq).heap.size:=zYV
 generalize V0.drewN nq=V1 at *
 clear q2 q3
 obtain ⟨GA,hGAn⟩:∃ GA,GA=G4+A:=⟨_,rfl⟩
 have hGA:(G4:Int)+(A:Int)=(GA:Int):=by omega
 have hGAi:(GA:Int)≤140000:=by have:=HGA.out; omega
 have hAi:(A:Int) < 65536:=by have:=HGA.out; omega
 have hu2i:N < GA:=by have:=HNs.out; omega
 clear HC HLT hu2 hGAn
 go_wp2_with fail
 go_wp2_with (refine Qaw _ (Qbp _) ?_)
 refine (KE.out 3 _ 1 HMX.out).mono ?_
 rintro e w3 ⟨a8,c8,W5,rfl,HST,HX,HF⟩
 obtain ⟨_,r0,r1,r2,f0,f1,f2⟩:=HX.out
 go_wp2_with (refine Qam _ _ (.pointer (V ⟨w.heap.size,0,J⟩)) (.agg zM) (by rfl) (by rfl) HST.out ?_)
 refine bodyPost_ret (v:=.tuple #[.agg zM,.agg #[U X 3,U X 1,I a8 0 c8]]) (Qar Tryz.results8 _ _ w.heap.size (w.heap.size+1) zM #[U X 3,U X 1,I a8 0 c8] rfl rfl HF.out.rM HF.out.rN Tryz.underlying40 rfl infoM Tryz.underlying38 rfl infoN) rfl ⟨?_,HF.out.bel⟩
 exact ⟨_,rfl,a8,c8,rfl,HF.out.own⟩
end
section
attribute [local go_sem ↓] Qbe Qba keptM_alloc Qbb
theorem Qxx (g o n cp:Nat)(bs:List Nat)(w:World)(hn:bs.length=n)(hn23:23≤n)(hl:n≤5000)(hcap:n≤cp)(h:BRd w (V ⟨g,o,J⟩) bs)(hr:Qa6 bs=(n,0,0,[]))(hk2:bs.getD 18 0=2)(G:Nat)(hG:G=256 * (bs.drop 19).getD 0 0+(bs.drop 19).getD 1 0)(A:Nat)(hA:A=256 * (bs.drop 19).getD (2+G) 0+(bs.drop 19).getD (3+G) 0)(hu:G+4≤n - 19)(hu2:G+4+A≤n - 19)(P Q:List (Nat×Nat))(b1 b2:Bool)(hP:(Qda (((bs.drop 19).drop 2).take G)).getD []=P)(hb1:(Qda (((bs.drop 19).drop 2).take G)).isSome=b1)(hQ:(Qda ((bs.drop 19).drop (G+4+A))).getD []=Q)(hb2:(Qda ((bs.drop 19).drop (G+4+A))).isSome=b2)(h1:b1=false) :
  Calls R 8 #[I (V ⟨g,o,J⟩) n cp] w fun e w'=>Qdd w w' e 3 10 []∧Below w.heap.size w w':=by
 have KH:=Qb5 g o n cp 4 bs w 2 hn (by omega) (by omega) hl hcap h hr (by rw [hk2]; rfl)
 have hF:=KH
 obtain ⟨c18,zg,HK,HC,HLT,HNC,H29,hcp19,hz0,hB,HBl,KE⟩:=hF
 unfold NtK at KE
 have hui:decide (n - 19 < 4+G)=false:=decide_eq_false (by omega)
 have HGA:Hid (A < 65536):=by
  have a1:=HLT.out (2+G)
  have a2:=HLT.out (3+G)
  show A < 65536
  omega
 have KP:=Qon KH hu hP hb1
 have KN:=Qoi KH hu2 hQ hb2
 unfold PfK at KP KN
 clear hu hP hQ hb1 hb2 KH h hcap hr hn hk2 hl hn23 hB HBl
 unfold Qdd Qby
 generalize P.length=pl at *
 generalize Q.length=ql at *
 subst h1
 go_enter Tryz.func8,Tryz.ntmps8
 go_wp2_with (refine Qah _ (Qav w) ?_)
 show Calls R 15 #[I (V ⟨g,o,J⟩) n cp] (dW w) _
 with_reducible refine HK.out.mono ?_
 rintro e w1 ⟨a9,c9,rfl,HB⟩
 have HH:=Qaa (Qen a9 0 c9 HB.out zg c18)
 go_wp2_with fail
 generalize (w1.alloc (D #[U X 0,U X 0,I a9 0 c9] 38))=W at *
 refine Qb9 _ W g o n cp 2 (opi rfl) (opi rfl) (opi rfl) (opi rfl) (opi rfl) (opi rfl) (opi rfl) (opi rfl) (opi rfl) (opi rfl) rfl (by kernel_rfl)
  (by kernel_rfl) (by kernel_rfl) (by kernel_rfl) (by kernel_rfl) (by kernel_rfl) (by kernel_rfl) (by kernel_rfl) (by kernel_rfl) (by kernel_rfl) (by kernel_rfl) (by kernel_rfl)
  rfl rfl (by have:=H29.out.1; omega) (by have:=H29.out.2; omega) (by omega) HH.out.c18 ?_
 intro a W6 hfr h6 h7 bY hb6
 rw [if_neg hcp19] at h7
 obtain ⟨x0,x1,x2,x3,x4,x5,x6,rfl⟩:=hfr.lay9m (by exact (by decide:∀ s∈[39,40,41,42,43,44,45,6,7],s < 247)) h6 h7
 have HD:Hid (D6 w W6 w1.heap.size W.heap.size (Qbt 2 0 0 (I J 0 0)) (I a9 0 c9)):=HH.out.d6 bY hb6
 have y0:W6.cell? ⟨W.heap.size,0,J⟩=V (U X 2):=Qai HD.out.bY 0 _ rfl
 have zY:W.heap.size < W6.heap.size:=HD.out.hs
 have HZ:=Qaa HH.out.sz
 have HBW2:=Qaa HH.out.bel
 have hsz:=HH.out.le
 clear hfr h6 h7 bY hb6
 simp only [Act.put,Z,K,E]
 have HMW:Hid (MW w W6):=⟨HD.out.bM,HD.out.bN,HD.out.bel⟩
 have q0:=HC.out W6 HD.out.bel 0 (by have:=HNC.out; omega)
 have q1:=HC.out W6 HD.out.bel 1 (by have:=HNC.out; omega)
 rw [Nat.add_zero] at q0
 have HBL:=Qaa HD.out.bel
 have HYL:=Qaa HD.out.bY
 generalize n - 19=N at *
 generalize cp - 19=CP at *
 have hl0:=HLT.out 0
 have hl1:=HLT.out 1
 generalize (bs.drop 19).getD 0 0=v0 at *
 generalize (bs.drop 19).getD 1 0=v1 at *
 have HG:Hid (256 * (v0:Int)+(v1:Int)=(G:Int)):=by show _=_; omega
 have hGi:(G:Int) < 65536:=by omega
 have HGn:Hid (G < 65536):=by show _ < _; omega
 clear hG
 obtain ⟨hN4,hNC,hN5⟩:=HNC.out
 have hN0i:(0:Int) < (N:Int):=by omega
 have hN1i:(1:Int) < (N:Int):=by omega
 have hN5i:(N:Int)≤5000:=by omega
 have HZg:g < W6.heap.size:=by have:=HBL.out.size; omega
 clear hN5
 have hbd:∀ m,Below W6.heap.size W6 (W6.drewN m):=fun m=>Qaj (T _ _) m
 have HDD:=Qaa hbd
 clear hbd
 go_wp2_with fail
 go_quiet (fail)
 rw [HG.out]
 have HBV:Hid (Below w.heap.size w (W6.drewN nq)):=HBL.out.trans ((HDD.out nq).mono HBL.out.size)
 have HMV:=Qaa (HMW.out.later (HDD.out nq))
 have HYV:Hid ((W6.drewN nq).heap[W.heap.size]?=V (D (Qbt 2 0 0 (I J 0 0)) 40 (0,0))):=HYL.out
 have HZV:g < (W6.drewN nq).heap.size:=HZg
 have zYV:W.heap.size < (W6.drewN nq).heap.size:=zY
 generalize W6.drewN nq=V0 at *
 clear q0 q1
 obtain ⟨G2,hG2n⟩:∃ G2,G2=2+G:=⟨_,rfl⟩
 obtain ⟨G3,hG3n⟩:∃ G3,G3=3+G:=⟨_,rfl⟩
 obtain ⟨G4,hG4n⟩:∃ G4,G4=4+G:=⟨_,rfl⟩
 have hG2:(2:Int)+(G:Int)=(G2:Int):=by omega
 have hG3:(3:Int)+(G:Int)=(G3:Int):=by omega
 have hG4:(4:Int)+(G:Int)=(G4:Int):=by omega
 have hG4':(G:Int)+4=(G4:Int):=by omega
 rw [← hG4n] at hui
 have huN:G4≤N:=by
  have:=of_decide_eq_false hui
  omega
 have q2:=HC.out V0 HBV.out (2+G) (by omega)
 have q3:=HC.out V0 HBV.out (3+G) (by omega)
 rw [← hG2n] at q2 hA
 rw [← hG3n] at q3 hA
 have hl2:=HLT.out G2
 have hl3:=HLT.out G3
 generalize (bs.drop 19).getD G2 0=v2 at *
 generalize (bs.drop 19).getD G3 0=v3 at *
 have HA:Hid (256 * (v2:Int)+(v3:Int)=(A:Int)):=by show _=_; omega
 clear hA
 have hG2N:G2 < N:=by omega
 have hG3N:G3 < N:=by omega
 have hG4i:(G4:Int)≤70000:=by omega
 have HNs:Hid (G2=2+G∧G3=3+G∧G4=4+G):=⟨hG2n,hG3n,hG4n⟩
 have HuN:=Qaa huN
 clear hG2n hG3n hG4n huN
 have hbd:∀ m,Below V0.heap.size V0 (V0.drewN m):=fun m=>Qaj (T _ _) m
 have HDE:=Qaa hbd
 clear hbd
 go_wp2_with fail
 go_quiet (fail)
 rw [HA.out]
 have HBX:Hid (Below w.heap.size w (V0.drewN nq)):=HBV.out.trans ((HDE.out nq).mono HBV.out.size)
 have HMX:=Qaa (HMV.out.later (HDE.out nq))
 have HYX:Hid ((V0.drewN nq).heap[W.heap.size]?=V (D (Qbt 2 0 0 (I J 0 0)) 40 (0,0))):=HYV.out
 have HZX:g < (V0.drewN nq).heap.size:=HZV
 have zYX:W.heap.size < (V0.drewN nq).heap.size:=zYV
 generalize V0.drewN nq=V1 at *
 clear q2 q3
 obtain ⟨GA,hGAn⟩:∃ GA,GA=G4+A:=⟨_,rfl⟩
 have hGA:(G4:Int)+(A:Int)=(GA:Int):=by omega
 have hGAi:(GA:Int)≤140000:=by have:=HGA.out; omega
 have hAi:(A:Int) < 65536:=by have:=HGA.out; omega
 have hu2i:decide (N < GA)=false:=decide_eq_false (by have:=HNs.out; omega)
 have hNG:GA≤N:=by have:=HNs.out; omega
 have h2G:2≤G2:=by have:=HNs.out; omega
 have hG2c:G2≤CP:=by omega
 have hCP2:¬ CP=2:=by omega
 have HGAn:Hid (GA=G4+A):=hGAn
 rw [← HNs.out.1] at KP
 rw [← HNs.out.2.2,← hGAn] at KN
 clear hu2 hGAn
 clear HC HLT
 by_cases e10:CP=GA
 rotate_left
 simp only [if_neg e10] at KN
 rotate_left
 have e10n:N=GA:=by omega
 subst e10 e10n
 simp only [Nat.sub_self,↓reduceIte] at KN
 all_goals (
  go_wp2_with fail
  with_reducible refine (KP.out _ HBX.out).mono ?_
  rintro e w2 ⟨⟨a1,c1,rfl,HO1⟩,HB2⟩
  have HBY:Hid (Below w.heap.size w w2):=HBX.out.trans (HB2.out.mono HBX.out.size)
  go_wp2_with fail
  with_reducible refine (KN.out _ HBY.out).mono ?_
  rintro e w3 ⟨⟨a2,c2,rfl,HO2⟩,HB3⟩
  have HBZ:Hid (Below w.heap.size w w3):=HBY.out.trans (HB3.out.mono HBY.out.size)
  have HB13:Hid (Below V1.heap.size V1 w3):=HB2.out.trans (HB3.out.mono HB2.out.size)
  have HM3:=Qaa (HMX.out.later HB13.out)
  go_wp2_with (refine Qaw _ (Qbp _) ?_)
  refine (KE.out 3 _ 10 HM3.out).mono ?_
  rintro e w3 ⟨a8,c8,W5,rfl,HST,HX,HF⟩
  obtain ⟨_,r0,r1,r2,f0,f1,f2⟩:=HX.out
  go_wp2_with (refine Qam _ _ (.pointer (V ⟨w.heap.size,0,J⟩)) (.agg zM) (by rfl) (by rfl) HST.out ?_)
  refine bodyPost_ret (v:=.tuple #[.agg zM,.agg #[U X 3,U X 10,I a8 0 c8]]) (Qar Tryz.results8 _ _ w.heap.size (w.heap.size+1) zM #[U X 3,U X 10,I a8 0 c8] rfl rfl HF.out.rM HF.out.rN Tryz.underlying40 rfl infoM Tryz.underlying38 rfl infoN) rfl ⟨?_,HF.out.bel⟩
  exact ⟨_,rfl,a8,c8,rfl,HF.out.own⟩
 )
theorem Qw6 (g o n cp:Nat)(bs:List Nat)(w:World)(hn:bs.length=n)(hn23:23≤n)(hl:n≤5000)(hcap:n≤cp)(h:BRd w (V ⟨g,o,J⟩) bs)(hr:Qa6 bs=(n,0,0,[]))(hk2:bs.getD 18 0=2)(G:Nat)(hG:G=256 * (bs.drop 19).getD 0 0+(bs.drop 19).getD 1 0)(A:Nat)(hA:A=256 * (bs.drop 19).getD (2+G) 0+(bs.drop 19).getD (3+G) 0)(hu:G+4≤n - 19)(hu2:G+4+A≤n - 19)(P Q:List (Nat×Nat))(b1 b2:Bool)(hP:(Qda (((bs.drop 19).drop 2).take G)).getD []=P)(hb1:(Qda (((bs.drop 19).drop 2).take G)).isSome=b1)(hQ:(Qda ((bs.drop 19).drop (G+4+A))).getD []=Q)(hb2:(Qda ((bs.drop 19).drop (G+4+A))).isSome=b2)(h1:b1=true)(h2:b2=false) :
  Calls R 8 #[I (V ⟨g,o,J⟩) n cp] w fun e w'=>Qdd w w' e 3 10 []∧Below w.heap.size w w':=by
 have KH:=Qb5 g o n cp 4 bs w 2 hn (by omega) (by omega) hl hcap h hr (by rw [hk2]; rfl)
 have hF:=KH
 obtain ⟨c18,zg,HK,HC,HLT,HNC,H29,hcp19,hz0,hB,HBl,KE⟩:=hF
 unfold NtK at KE
 have hui:decide (n - 19 < 4+G)=false:=decide_eq_false (by omega)
 have HGA:Hid (A < 65536):=by
  have a1:=HLT.out (2+G)
  have a2:=HLT.out (3+G)
  show A < 65536
  omega
 have KP:=Qon KH hu hP hb1
 have KN:=Qoi KH hu2 hQ hb2
 unfold PfK at KP KN
 clear hu hP hQ hb1 hb2 KH h hcap hr hn hk2 hl hn23 hB HBl
 unfold Qdd Qby
 generalize P.length=pl at *
 generalize Q.length=ql at *
 subst h1 h2
 go_enter Tryz.func8,Tryz.ntmps8
 go_wp2_with (refine Qah _ (Qav w) ?_)
 show Calls R 15 #[I (V ⟨g,o,J⟩) n cp] (dW w) _
 with_reducible refine HK.out.mono ?_
 rintro e w1 ⟨a9,c9,rfl,HB⟩
 have HH:=Qaa (Qen a9 0 c9 HB.out zg c18)
 go_wp2_with fail
 generalize (w1.alloc (D #[U X 0,U X 0,I a9 0 c9] 38))=W at *
 refine Qb9 _ W g o n cp 2 (opi rfl) (opi rfl) (opi rfl) (opi rfl) (opi rfl) (opi rfl) (opi rfl) (opi rfl) (opi rfl) (opi rfl) rfl (by kernel_rfl)
  (by kernel_rfl) (by kernel_rfl) (by kernel_rfl) (by kernel_rfl) (by kernel_rfl) (by kernel_rfl) (by kernel_rfl) (by kernel_rfl) (by kernel_rfl) (by kernel_rfl) (by kernel_rfl)
  rfl rfl (by have:=H29.out.1; omega) (by have:=H29.out.2; omega) (by omega) HH.out.c18 ?_
 intro a W6 hfr h6 h7 bY hb6
 rw [if_neg hcp19] at h7
 obtain ⟨x0,x1,x2,x3,x4,x5,x6,rfl⟩:=hfr.lay9m (by exact (by decide:∀ s∈[39,40,41,42,43,44,45,6,7],s < 247)) h6 h7
 have HD:Hid (D6 w W6 w1.heap.size W.heap.size (Qbt 2 0 0 (I J 0 0)) (I a9 0 c9)):=HH.out.d6 bY hb6
 have y0:W6.cell? ⟨W.heap.size,0,J⟩=V (U X 2):=Qai HD.out.bY 0 _ rfl
 have zY:W.heap.size < W6.heap.size:=HD.out.hs
 have HZ:=Qaa HH.out.sz
 have HBW2:=Qaa HH.out.bel
 have hsz:=HH.out.le
 clear hfr h6 h7 bY hb6
 simp only [Act.put,Z,K,E]
 have HMW:Hid (MW w W6):=⟨HD.out.bM,HD.out.bN,HD.out.bel⟩
 have q0:=HC.out W6 HD.out.bel 0 (by have:=HNC.out; omega)
 have q1:=HC.out W6 HD.out.bel 1 (by have:=HNC.out; omega)
 rw [Nat.add_zero] at q0
 have HBL:=Qaa HD.out.bel
 have HYL:=Qaa HD.out.bY
 generalize n - 19=N at *
 generalize cp - 19=CP at *
 have hl0:=HLT.out 0
 have hl1:=HLT.out 1
 generalize (bs.drop 19).getD 0 0=v0 at *
 generalize (bs.drop 19).getD 1 0=v1 at *
 have HG:Hid (256 * (v0:Int)+(v1:Int)=(G:Int)):=by show _=_; omega
 have hGi:(G:Int) < 65536:=by omega
 have HGn:Hid (G < 65536):=by show _ < _; omega
 clear hG
 obtain ⟨hN4,hNC,hN5⟩:=HNC.out
 have hN0i:(0:Int) < (N:Int):=by omega
 have hN1i:(1:Int) < (N:Int):=by omega
 have hN5i:(N:Int)≤5000:=by omega
 have HZg:g < W6.heap.size:=by have:=HBL.out.size; omega
 clear hN5
 have hbd:∀ m,Below W6.heap.size W6 (W6.drewN m):=fun m=>Qaj (T _ _) m
 have HDD:=Qaa hbd
 clear hbd
 go_wp2_with fail
 go_quiet (fail)
 rw [HG.out]
 have HBV:Hid (Below w.heap.size w (W6.drewN nq)):=HBL.out.trans ((HDD.out nq).mono HBL.out.size)
 have HMV:=Qaa (HMW.out.later (HDD.out nq))
 have HYV:Hid ((W6.drewN nq).heap[W.heap.size]?=V (D (Qbt 2 0 0 (I J 0 0)) 40 (0,0))):=HYL.out
 have HZV:g < (W6.drewN nq).heap.size:=HZg
 have zYV:W.heap.size < (W6.drewN nq).heap.size:=zY
 generalize W6.drewN nq=V0 at *
 clear q0 q1
 obtain ⟨G2,hG2n⟩:∃ G2,G2=2+G:=⟨_,rfl⟩
 obtain ⟨G3,hG3n⟩:∃ G3,G3=3+G:=⟨_,rfl⟩
 obtain ⟨G4,hG4n⟩:∃ G4,G4=4+G:=⟨_,rfl⟩
 have hG2:(2:Int)+(G:Int)=(G2:Int):=by omega
 have hG3:(3:Int)+(G:Int)=(G3:Int):=by omega
 have hG4:(4:Int)+(G:Int)=(G4:Int):=by omega
 have hG4':(G:Int)+4=(G4:Int):=by omega
 rw [← hG4n] at hui
 have huN:G4≤N:=by
  have:=of_decide_eq_false hui
  omega
 have q2:=HC.out V0 HBV.out (2+G) (by omega)
 have q3:=HC.out V0 HBV.out (3+G) (by omega)
 rw [← hG2n] at q2 hA
 rw [← hG3n] at q3 hA
 have hl2:=HLT.out G2
 have hl3:=HLT.out G3
 generalize (bs.drop 19).getD G2 0=v2 at *
 generalize (bs.drop 19).getD G3 0=v3 at *
 have HA:Hid (256 * (v2:Int)+(v3:Int)=(A:Int)):=by show _=_; omega
 clear hA
 have hG2N:G2 < N:=by omega
 have hG3N:G3 < N:=by omega
 have hG4i:(G4:Int)≤70000:=by omega
 have HNs:Hid (G2=2+G∧G3=3+G∧G4=4+G):=⟨hG2n,hG3n,hG4n⟩
 have HuN:=Qaa huN
 clear hG2n hG3n hG4n huN
 have hbd:∀ m,Below V0.heap.size V0 (V0.drewN m):=fun m=>Qaj (T _ _) m
 have HDE:=Qaa hbd
 clear hbd
 go_wp2_with fail
 go_quiet (fail)
 rw [HA.out]
 have HBX:Hid (Below w.heap.size w (V0.drewN nq)):=HBV.out.trans ((HDE.out nq).mono HBV.out.size)
 have HMX:=Qaa (HMV.out.later (HDE.out nq))
 have HYX:Hid ((V0.drewN nq).heap[W.heap.size]?=V (D (Qbt 2 0 0 (I J 0 0)) 40 (0,0))):=HYV.out
 have HZX:g < (V0.drewN nq).heap.size:=HZV
 have zYX:W.heap.size < (V0.drewN nq).heap.size:=zYV
 generalize V0.drewN nq=V1 at *
 clear q2 q3
 obtain ⟨GA,hGAn⟩:∃ GA,GA=G4+A:=⟨_,rfl⟩
 have hGA:(G4:Int)+(A:Int)=(GA:Int):=by omega
 have hGAi:(GA:Int)≤140000:=by have:=HGA.out; omega
 have hAi:(A:Int) < 65536:=by have:=HGA.out; omega
 have hu2i:decide (N < GA)=false:=decide_eq_false (by have:=HNs.out; omega)
 have hNG:GA≤N:=by have:=HNs.out; omega
 have h2G:2≤G2:=by have:=HNs.out; omega
 have hG2c:G2≤CP:=by omega
 have hCP2:¬ CP=2:=by omega
 have HGAn:Hid (GA=G4+A):=hGAn
 rw [← HNs.out.1] at KP
 rw [← HNs.out.2.2,← hGAn] at KN
 clear hu2 hGAn
 clear HC HLT
 by_cases e10:CP=GA
 rotate_left
 simp only [if_neg e10] at KN
 rotate_left
 have e10n:N=GA:=by omega
 subst e10 e10n
 simp only [Nat.sub_self,↓reduceIte] at KN
 all_goals (
  go_wp2_with fail
  with_reducible refine (KP.out _ HBX.out).mono ?_
  rintro e w2 ⟨⟨a1,c1,rfl,HO1⟩,HB2⟩
  have HBY:Hid (Below w.heap.size w w2):=HBX.out.trans (HB2.out.mono HBX.out.size)
  go_wp2_with fail
  with_reducible refine (KN.out _ HBY.out).mono ?_
  rintro e w3 ⟨⟨a2,c2,rfl,HO2⟩,HB3⟩
  have HBZ:Hid (Below w.heap.size w w3):=HBY.out.trans (HB3.out.mono HBY.out.size)
  have HB13:Hid (Below V1.heap.size V1 w3):=HB2.out.trans (HB3.out.mono HB2.out.size)
  have HM3:=Qaa (HMX.out.later HB13.out)
  go_wp2_with (refine Qaw _ (Qbp _) ?_)
  refine (KE.out 3 _ 10 HM3.out).mono ?_
  rintro e w3 ⟨a8,c8,W5,rfl,HST,HX,HF⟩
  obtain ⟨_,r0,r1,r2,f0,f1,f2⟩:=HX.out
  go_wp2_with (refine Qam _ _ (.pointer (V ⟨w.heap.size,0,J⟩)) (.agg zM) (by rfl) (by rfl) HST.out ?_)
  refine bodyPost_ret (v:=.tuple #[.agg zM,.agg #[U X 3,U X 10,I a8 0 c8]]) (Qar Tryz.results8 _ _ w.heap.size (w.heap.size+1) zM #[U X 3,U X 10,I a8 0 c8] rfl rfl HF.out.rM HF.out.rN Tryz.underlying40 rfl infoM Tryz.underlying38 rfl infoN) rfl ⟨?_,HF.out.bel⟩
  exact ⟨_,rfl,a8,c8,rfl,HF.out.own⟩
 )
end
section
attribute [local go_sem ↓] Qbe Qba keptM_alloc Qbb
theorem Qy4 (g o n cp:Nat)(bs:List Nat)(w:World)(hn:bs.length=n)(hn23:23≤n)(hl:n≤5000)(hcap:n≤cp)(h:BRd w (V ⟨g,o,J⟩) bs)(hr:Qa6 bs=(n,0,0,[]))(hk2:bs.getD 18 0=2)(G:Nat)(hG:G=256 * (bs.drop 19).getD 0 0+(bs.drop 19).getD 1 0)(A:Nat)(hA:A=256 * (bs.drop 19).getD (2+G) 0+(bs.drop 19).getD (3+G) 0)(hu:G+4≤n - 19)(hu2:G+4+A≤n - 19)(P Q:List (Nat×Nat))(hP:(Qda (((bs.drop 19).drop 2).take G)).getD []=P)(hb1:(Qda (((bs.drop 19).drop 2).take G)).isSome=true)(hQ:(Qda ((bs.drop 19).drop (G+4+A))).getD []=Q)(hb2:(Qda ((bs.drop 19).drop (G+4+A))).isSome=true)(hQ0:Q=[])(hA0:A=0) :
  Calls R 8 #[I (V ⟨g,o,J⟩) n cp] w fun e w'=>(∃ v u A,e=.returned (.tuple #[.agg (updMsg 2 (Qct v A u)),.agg #[U X 0,U X 0,I J 0 0]])∧Qoe w.heap.size P [] v u A J w')∧Below w.heap.size w w':=by
 have KH:=Qb5 g o n cp 4 bs w 2 hn (by omega) (by omega) hl hcap h hr (by rw [hk2]; rfl)
 have hF:=KH
 obtain ⟨c18,zg,HK,HC,HLT,HNC,H29,hcp19,hz0,hB,HBl,KE⟩:=hF
 unfold NtK at KE
 have hui:decide (n - 19 < 4+G)=false:=decide_eq_false (by omega)
 have HGA:Hid (A < 65536):=by
  have a1:=HLT.out (2+G)
  have a2:=HLT.out (3+G)
  show A < 65536
  omega
 have KP:=Qon KH hu hP hb1
 have KN:=Qoi KH hu2 hQ hb2
 unfold PfK at KP KN
 have hA0i:decide (0 < A)=false:=decide_eq_false (by omega)
 have hA0j:decide ((0:Int) < (A:Int))=false:=decide_eq_false (by omega)
 clear hu hP hQ hb1 hb2 hA0 KH h hcap hr hn hk2 hl hn23 hB HBl
 have hQe:Q=[]:=hQ0
 subst hQe
 unfold Qoe
 simp only [List.length_nil] at KN ⊢
 generalize P.length=pl at *
 go_enter Tryz.func8,Tryz.ntmps8
 go_wp2_with (refine Qah _ (Qav w) ?_)
 show Calls R 15 #[I (V ⟨g,o,J⟩) n cp] (dW w) _
 with_reducible refine HK.out.mono ?_
 rintro e w1 ⟨a9,c9,rfl,HB⟩
 have HH:=Qaa (Qen a9 0 c9 HB.out zg c18)
 go_wp2_with fail
 generalize (w1.alloc (D #[U X 0,U X 0,I a9 0 c9] 38))=W at *
 refine Qb9 _ W g o n cp 2 (opi rfl) (opi rfl) (opi rfl) (opi rfl) (opi rfl) (opi rfl) (opi rfl) (opi rfl) (opi rfl) (opi rfl) rfl (by kernel_rfl)
  (by kernel_rfl) (by kernel_rfl) (by kernel_rfl) (by kernel_rfl) (by kernel_rfl) (by kernel_rfl) (by kernel_rfl) (by kernel_rfl) (by kernel_rfl) (by kernel_rfl) (by kernel_rfl)
  rfl rfl (by have:=H29.out.1; omega) (by have:=H29.out.2; omega) (by omega) HH.out.c18 ?_
 intro a W6 hfr h6 h7 bY hb6
 rw [if_neg hcp19] at h7
 obtain ⟨x0,x1,x2,x3,x4,x5,x6,rfl⟩:=hfr.lay9m (by exact (by decide:∀ s∈[39,40,41,42,43,44,45,6,7],s < 247)) h6 h7
 have HD:Hid (D6 w W6 w1.heap.size W.heap.size (Qbt 2 0 0 (I J 0 0)) (I a9 0 c9)):=HH.out.d6 bY hb6
 have y0:W6.cell? ⟨W.heap.size,0,J⟩=V (U X 2):=Qai HD.out.bY 0 _ rfl
 have zY:W.heap.size < W6.heap.size:=HD.out.hs
 have HZ:=Qaa HH.out.sz
 have HBW2:=Qaa HH.out.bel
 have hsz:=HH.out.le
 clear hfr h6 h7 bY hb6
 simp only [Act.put,Z,K,E]
 have HMW:Hid (MW w W6):=⟨HD.out.bM,HD.out.bN,HD.out.bel⟩
 have q0:=HC.out W6 HD.out.bel 0 (by have:=HNC.out; omega)
 have q1:=HC.out W6 HD.out.bel 1 (by have:=HNC.out; omega)
 rw [Nat.add_zero] at q0
 have HBL:=Qaa HD.out.bel
 have HYL:=Qaa HD.out.bY
 generalize n - 19=N at *
 generalize cp - 19=CP at *
 have hl0:=HLT.out 0
 have hl1:=HLT.out 1
 generalize (bs.drop 19).getD 0 0=v0 at *
 generalize (bs.drop 19).getD 1 0=v1 at *
 have HG:Hid (256 * (v0:Int)+(v1:Int)=(G:Int)):=by show _=_; omega
 have hGi:(G:Int) < 65536:=by omega
 have HGn:Hid (G < 65536):=by show _ < _; omega
 clear hG
 obtain ⟨hN4,hNC,hN5⟩:=HNC.out
 have hN0i:(0:Int) < (N:Int):=by omega
 have hN1i:(1:Int) < (N:Int):=by omega
 have hN5i:(N:Int)≤5000:=by omega
 have HZg:g < W6.heap.size:=by have:=HBL.out.size; omega
 clear hN5
 have hbd:∀ m,Below W6.heap.size W6 (W6.drewN m):=fun m=>Qaj (T _ _) m
 have HDD:=Qaa hbd
 clear hbd
 go_wp2_with fail
 go_quiet (fail)
 rw [HG.out]
 have HBV:Hid (Below w.heap.size w (W6.drewN nq)):=HBL.out.trans ((HDD.out nq).mono HBL.out.size)
 have HMV:=Qaa (HMW.out.later (HDD.out nq))
 have HYV:Hid ((W6.drewN nq).heap[W.heap.size]?=V (D (Qbt 2 0 0 (I J 0 0)) 40 (0,0))):=HYL.out
 have HZV:g < (W6.drewN nq).heap.size:=HZg
 have zYV:W.heap.size < (W6.drewN nq).heap.size:=zY
 generalize W6.drewN nq=V0 at *
 clear q0 q1
 obtain ⟨G2,hG2n⟩:∃ G2,G2=2+G:=⟨_,rfl⟩
 obtain ⟨G3,hG3n⟩:∃ G3,G3=3+G:=⟨_,rfl⟩
 obtain ⟨G4,hG4n⟩:∃ G4,G4=4+G:=⟨_,rfl⟩
 have hG2:(2:Int)+(G:Int)=(G2:Int):=by omega
 have hG3:(3:Int)+(G:Int)=(G3:Int):=by omega
 have hG4:(4:Int)+(G:Int)=(G4:Int):=by omega
 have hG4':(G:Int)+4=(G4:Int):=by omega
 rw [← hG4n] at hui
 have huN:G4≤N:=by
  have:=of_decide_eq_false hui
  omega
 have q2:=HC.out V0 HBV.out (2+G) (by omega)
 have q3:=HC.out V0 HBV.out (3+G) (by omega)
 rw [← hG2n] at q2 hA
 rw [← hG3n] at q3 hA
 have hl2:=HLT.out G2
 have hl3:=HLT.out G3
 generalize (bs.drop 19).getD G2 0=v2 at *
 generalize (bs.drop 19).getD G3 0=v3 at *
 have HA:Hid (256 * (v2:Int)+(v3:Int)=(A:Int)):=by show _=_; omega
 clear hA
 have hG2N:G2 < N:=by omega
 have hG3N:G3 < N:=by omega
 have hG4i:(G4:Int)≤70000:=by omega
 have HNs:Hid (G2=2+G∧G3=3+G∧G4=4+G):=⟨hG2n,hG3n,hG4n⟩
 have HuN:=Qaa huN
 clear hG2n hG3n hG4n huN
 have hbd:∀ m,Below V0.heap.size V0 (V0.drewN m):=fun m=>Qaj (T _ _) m
 have HDE:=Qaa hbd
 clear hbd
 go_wp2_with fail
 go_quiet (fail)
 rw [HA.out]
 have HBX:Hid (Below w.heap.size w (V0.drewN nq)):=HBV.out.trans ((HDE.out nq).mono HBV.out.size)
 have HMX:=Qaa (HMV.out.later (HDE.out nq))
 have HYX:Hid ((V0.drewN nq).heap[W.heap.size]?=V (D (Qbt 2 0 0 (I J 0 0)) 40 (0,0))):=HYV.out
 have HZX:g < (V0.drewN nq).heap.size:=HZV
 have zYX:W.heap.size < (V0.drewN nq).heap.size:=zYV
 generalize V0.drewN nq=V1 at *
 clear q2 q3
 obtain ⟨GA,hGAn⟩:∃ GA,GA=G4+A:=⟨_,rfl⟩
 have hGA:(G4:Int)+(A:Int)=(GA:Int):=by omega
 have hGAi:(GA:Int)≤140000:=by have:=HGA.out; omega
 have hAi:(A:Int) < 65536:=by have:=HGA.out; omega
 have hu2i:decide (N < GA)=false:=decide_eq_false (by have:=HNs.out; omega)
 have hNG:GA≤N:=by have:=HNs.out; omega
 have h2G:2≤G2:=by have:=HNs.out; omega
 have hG2c:G2≤CP:=by omega
 have hCP2:¬ CP=2:=by omega
 have HGAn:Hid (GA=G4+A):=hGAn
 rw [← HNs.out.1] at KP
 rw [← HNs.out.2.2,← hGAn] at KN
 clear hu2 hGAn
 clear HC HLT KE
 by_cases e10:CP=GA
 rotate_left
 simp only [if_neg e10] at KN
 rotate_left
 have e10n:N=GA:=by omega
 subst e10 e10n
 simp only [Nat.sub_self,↓reduceIte] at KN
 all_goals (
  go_wp2_with fail
  with_reducible refine (KP.out _ HBX.out).mono ?_
  rintro e w2 ⟨⟨a1,c1,rfl,HO1⟩,HB2⟩
  have HBY:Hid (Below w.heap.size w w2):=HBX.out.trans (HB2.out.mono HBX.out.size)
  go_wp2_with fail
  with_reducible refine (KN.out _ HBY.out).mono ?_
  rintro e w3 ⟨⟨a2,c2,rfl,HO2⟩,HB3⟩
  have HBZ:Hid (Below w.heap.size w w3):=HBY.out.trans (HB3.out.mono HBY.out.size)
  have HB13:Hid (Below V1.heap.size V1 w3):=HB2.out.trans (HB3.out.mono HB2.out.size)
  have HM3:=Qaa (HMX.out.later HB13.out)
  have HYW:Hid (w3.heap[W.heap.size]?=V (D (Qbt 2 0 0 (I J 0 0)) 40 (0,0))):=by show _=_; rw [HB13.out.block _ zYX]; exact HYX.out
  have y13:w3.cell? ⟨W.heap.size,13,J⟩=V (I J 0 0):=Qai HYW.out 13 _ rfl
  have y21:w3.cell? ⟨W.heap.size,21,J⟩=V (I J 0 0):=Qai HYW.out 21 _ rfl
  have y13f:w3.frozen? ⟨W.heap.size,13,J⟩=false:=by simp [World.frozen?,HYW.out]
  have y21f:w3.frozen? ⟨W.heap.size,21,J⟩=false:=by simp [World.frozen?,HYW.out]
  have zY3:W.heap.size < w3.heap.size:=by have:=HB13.out.size; omega
  obtain ⟨bY4,kY4,sY4⟩:=Qj8 (v:=I a1 pl c1) (u:=I a2 0 c2) HYW.out
  have BY4:=Qaa bY4
  have KY4:=Qaa kY4
  have SY4:=Qaa sY4
  clear bY4 kY4 sY4
  have zww:w.heap.size+1 < W.heap.size:=by have:=HZ.out; omega
  have HZW:=Qaa zww
  clear zww
  go_wp2_with fail
  generalize (w3.setCell ⟨W.heap.size,13,J⟩ (I a1 pl c1)).setCell ⟨W.heap.size,21,J⟩ (I a2 0 c2)=V4 at *
  have HB4:Hid (Below w.heap.size w V4):=HBZ.out.trans (KY4.out.below _ HBZ.out.size (fun x e=>by have:=HZW.out; omega))
  have HM4:Hid (MW w V4):=by
   have z:=HZW.out
   have z1:=(Array.getElem?_eq_some_iff.1 HM3.out.bN).1
   refine ⟨?_,?_,HB4.out⟩
   ·rw [KY4.out.block _ (by omega) (by omega)]; exact HM3.out.bM
   ·rw [KY4.out.block _ (by omega) (by omega)]; exact HM3.out.bN
  have HP4:Hid (V4.ownsRow V1.heap.size 94 2 (I a1 pl c1) pl (pcells P)):=Qas (Qaq HO1.out HB3.out) KY4.out (fun x hx=>by omega)
  have HQ4:Hid (V4.ownsRow V1.heap.size 94 2 (I a2 0 c2) 0 (pcells [])):=Qas (Qa0 HO2.out HB2.out.size) KY4.out (fun x hx=>by omega)
  have z4:V1.heap.size≤V4.heap.size:=by have:=HB13.out.size; have:=SY4.out; omega
  have zY4:W.heap.size < V4.heap.size:=by omega
  clear y13 y21 y13f y21f
  obtain ⟨C,hC⟩:∃ C,C=(updMsg 2 (Qct (I a1 pl c1) zA7 (I a2 0 c2))):=⟨_,rfl⟩
  have HMC:MC C:=by rw [hC]; exact (MC.updMsg 2 (UC.upd rfl rfl rfl (by simp [zA7,Value.oneCell'])))
  obtain ⟨W5,HLD,HST,HX,HG⟩:=Qet (C:=C) (Y:=W.heap.size) HM4.out.bM HM4.out.bN (by rw [hC]; exact BY4.out) HMC HB4.out
  obtain ⟨_,r0,r1,r2,f0,f1,f2⟩:=HX.out
  have HCE:=Qaa hC
  clear hC
  go_wp2_with fail
  refine Qbq _ (.pointer (V ⟨W.heap.size,0,J⟩)) (.agg C) (by rfl) HLD.out ?_
  go_wp2_with fail
  refine Qam _ _ (.pointer (V ⟨w.heap.size,0,J⟩)) (.agg C) (by rfl) (by rfl) HST.out ?_
  go_wp2_with fail
  refine bodyPost_ret (v:=.tuple #[.agg C,.agg #[U X 0,U X 0,I J 0 0]]) (Qar Tryz.results8 _ _ w.heap.size (w.heap.size+1) C #[U X 0,U X 0,I J 0 0] rfl rfl HG.out.rM HG.out.rN Tryz.underlying40 rfl (by rw [HMC.1]; exact infoM) Tryz.underlying38 rfl infoN) rfl ⟨⟨_,_,_,by rw [HCE.out],Qa0 (Qas HP4.out HG.out.keep (fun x hx=>by have:=HZW.out; omega)) (by have:=HBX.out.size; omega),Qa0 (Qas HQ4.out HG.out.keep (fun x hx=>by have:=HZW.out; omega)) (by have:=HBX.out.size; omega),rfl⟩,HG.out.bel⟩
 )
end
