import Derived.Test.YtdojlejehjbliaaGreatDoorPA37
namespace Go.Proofs.YtdojlejehjbliaaGreatDoor
set_option maxHeartbeats 4000000
open _root_.Go.Value renaming slice → I,int → V
open _root_.Go.IntKind renaming i64 → J
open _root_.Option renaming none → Z,some → Q
open _root_.List renaming setIfInBounds_toArray → U,set_cons_zero → D,set_cons_succ → R,length_drop → T
open _root_.Go.Obj renaming cells → K
open _root_.Go.Proofs.Tryz renaming prog → E
open Go.RowKit
set_option maxRecDepth 100000
section
attribute [local go_sem ↓] Qbe Qba keptM_alloc Qbb
theorem Qxd (a:Option Addr)(cp n:Nat)(bs:List Nat)(w:World)(hn:bs.length=n)(hl:bs.length≤100000)(hcap:bs.length≤cp)(h:BRd w a bs)(k s:Nat)(d:List Nat)(hr:Qa6 bs=(0,k,s,d))(hk:k≠0) :
  Calls E 8 #[I a n cp] w fun e w'=>Qdd w w' e k s d∧Below w.heap.size w w':=by
 have KH:=Qhm a cp bs w hl hcap h _ hr
 rw [hn] at KH
 have HK:=Qaa KH
 clear KH h hl hcap hr hn
 have hkz:((k:Int) != 0)=true:=by simp; omega
 simp only at HK
 unfold Qdd Qby
 generalize d.length=dl at *
 go_enter Tryz.func8,Tryz.ntmps8
 go_wp2_with (refine Qah _ (Qav w) ?_)
 show Calls E 15 #[I a n cp] (dW w) _
 with_reducible refine HK.out.mono ?_
 rintro e w1 ⟨a9,c9,rfl,HO,HB⟩
 have HMb:Hid (w1.heap[w.heap.size]?=Q (K zM 40 (0,0))):=by show _=_; rw [HB.out.block _ (by omega)]; exact Qyh w
 have HNb:Hid (w1.heap[w.heap.size+1]?=Q (K #[V J 0,V J 0,I Z 0 0] 38 (0,0))):=by show _=_; rw [HB.out.block _ (by omega)]; exact Qzc w
 have hsz:w.heap.size+1+1≤w1.heap.size:=by have:=HB.out.size; rw [Qdm] at this; exact this
 have HBW:Hid (Below w.heap.size w w1):=(Qdy w).trans (HB.out.mono (by omega))
 go_wp2_with fail
 have HMb2:Hid ((w1.alloc (K #[V J (k:Int),V J (s:Int),I a9 dl c9] 38)).heap[w.heap.size]?=Q (K zM 40 (0,0))):=by
  show _=_; rw [Qc5 (by omega)]; exact HMb.out
 have HNb2:Hid ((w1.alloc (K #[V J (k:Int),V J (s:Int),I a9 dl c9] 38)).heap[w.heap.size+1]?=Q (K #[V J 0,V J 0,I Z 0 0] 38 (0,0))):=by
  show _=_; rw [Qc5 (by omega)]; exact HNb.out
 have HXb:Hid ((w1.alloc (K #[V J (k:Int),V J (s:Int),I a9 dl c9] 38)).heap[w1.heap.size]?=Q (K #[V J (k:Int),V J (s:Int),I a9 dl c9] 38 (0,0))):=heap_alloc_new w1 _
 have HOW:Hid ((w1.alloc (K #[V J (k:Int),V J (s:Int),I a9 dl c9] 38)).ownsRow (w.heap.size+2) 5 1 (I a9 dl c9) dl (Qal d)):=HO.out.alloc _
 have HBW2:Hid (Below w.heap.size w (w1.alloc (K #[V J (k:Int),V J (s:Int),I a9 dl c9] 38))):=HBW.out.alloc (by omega) _
 have hz9:(w1.alloc (K #[V J (k:Int),V J (s:Int),I a9 dl c9] 38)).heap.size=w1.heap.size+1:=by simp
 have HZ:=Qaa hz9
 clear hz9
 generalize (w1.alloc (K #[V J (k:Int),V J (s:Int),I a9 dl c9] 38))=W at *
 refine Qcp _ W w.heap.size (w.heap.size+1) 40 zM zM #[V J 0,V J 0,I Z 0 0] #[V J (k:Int),V J (s:Int),I a9 dl c9] 27 28 _ _ (opi rfl) (opi rfl) (opi rfl) (opi rfl) rfl (by kernel_rfl) (by kernel_rfl) (by kernel_rfl) (by kernel_rfl) (by kernel_rfl) (by kernel_rfl) (by kernel_rfl) (by kernel_rfl)
  (fun ty po af W' _=>Qdf W') (fun ty po af W' hW=>Qbw (by rfl) (by
   show W'.heap[w1.heap.size]?=_
   rw [hW.block _ (by rw [HZ.out]; omega) (by omega)]; exact HXb.out)) rfl rfl (show 27 < 247 by decide) (show 28 < 247 by decide) (by decide) HMb2.out HNb2.out (by omega) rfl rfl infoM infoN MC.zero.2 (by simp [Value.oneCell']) ?_
 simp only [Act.put,U,D,R]
 have HRM:Hid (((({ W with drawn:=W.drawn+1 } : World).setCells w.heap.size 0 zM.toList).setCells (w.heap.size+1) 0 (#[Value.int J (k:Int),V J (s:Int),I a9 dl c9]:Array Value).toList).rangeAt w.heap.size 0 zM.toList):=Qb7 (Qb2 (w:={ W with drawn:=W.drawn+1 }) HMb2.out (Nat.le_refl _)) (by omega)
 have HRN:Hid (((({ W with drawn:=W.drawn+1 } : World).setCells w.heap.size 0 zM.toList).setCells (w.heap.size+1) 0 (#[Value.int J (k:Int),V J (s:Int),I a9 dl c9]:Array Value).toList).rangeAt (w.heap.size+1) 0 (#[Value.int J (k:Int),V J (s:Int),I a9 dl c9]:Array Value).toList) :=
  Qb2 (C0:=#[V J 0,V J 0,I Z 0 0]) (t:=38) (by rw [Qax (by omega)]; exact HNb2.out) (by simp)
 have HKe:Hid (Qae (fun x=>x=w.heap.size∨x=w.heap.size+1) W ((({ W with drawn:=W.drawn+1 } : World).setCells w.heap.size 0 zM.toList).setCells (w.heap.size+1) 0 (#[Value.int J (k:Int),V J (s:Int),I a9 dl c9]:Array Value).toList)) :=
  (Qae.setCells (w:=W) (w1:={ W with drawn:=W.drawn+1 }) ⟨rfl,rfl,rfl,Nat.le_refl _,fun _ _ _=>rfl⟩ _ 0 _ (.inl (.inl rfl))).setCells _ 0 _ (.inl (.inr rfl))
 generalize ((({ W with drawn:=W.drawn+1 } : World).setCells w.heap.size 0 zM.toList).setCells (w.heap.size+1) 0 (#[Value.int J (k:Int),V J (s:Int),I a9 dl c9]:Array Value).toList)=W9 at *
 go_wp2_with fail
 refine bodyPost_ret (v:=.tuple #[.agg zM,.agg #[V J (k:Int),V J (s:Int),I a9 dl c9]]) (Qar Tryz.results8 _ W9 w.heap.size (w.heap.size+1) zM _ rfl rfl HRM.out HRN.out Tryz.underlying40 rfl infoM Tryz.underlying38 rfl infoN) rfl ⟨⟨_,rfl,a9,c9,rfl,?_⟩,?_⟩
 ·exact Qa0 (Qas HOW.out HKe.out (by omega)) (by omega)
 ·exact HBW2.out.trans (HKe.out.below _ (by rw [HZ.out]; omega) (fun x e=>by omega))
theorem Qms (a:Option Addr)(cp n:Nat)(bs:List Nat)(w:World)(hn:bs.length=n)(hl:bs.length≤100000)(hcap:bs.length≤cp)(h:BRd w a bs)(m:Nat)(hr:Qa6 bs=(m,0,0,[]))(hm:m≤5000)(hno:m=0∨m≠n) :
  Calls E 8 #[I a n cp] w fun e w'=>Qdd w w' e 1 2 []∧Below w.heap.size w w':=by
 have KH:=Qhm a cp bs w hl hcap h _ hr
 rw [hn] at KH
 have HK:=Qaa KH
 have HW:Hid (MW w (dW w)):=MW.made w
 have KE:Hid (∀ X,MW w X→Calls E 23 #[V J 1,V J 2,I Z 0 0] X fun e w3=>∃ a9 c9 W5,e=.returned (.agg #[V J 1,V J 2,I a9 0 c9])∧Hid ((Instr.storeAt 40 (.pointer (Q ⟨w.heap.size,0,Z⟩)) (.agg zM)).run E w3=.ok () W5)∧Hid (Qc3 W5 (w.heap.size+1))∧Hid (Jbf w W5 1 2 [] a9 0 c9)):=fun X hX=>Qly w X hX 1 2 Z 0 0 [] rfl (by decide) (Qbf _ _)
 have hcase:(((m:Int) == 0)=true)∨(((m:Int) == 0)=false∧((m:Int) != (n:Int))=true):=by
  by_cases h9:m=0
  ·exact .inl (by simp; omega)
  ·refine .inr ⟨by simp; omega,?_⟩
   have:m≠n:=by omega
   simp; omega
 clear KH h hl hcap hr hn hno
 simp only at HK
 unfold Qdd Qby
 go_enter Tryz.func8,Tryz.ntmps8
 go_wp2_with (refine Qah _ (Qav w) ?_)
 show Calls E 15 #[I a n cp] (dW w) _
 with_reducible refine HK.out.mono ?_
 rintro e w1 ⟨a9,c9,rfl,HO,HB⟩
 have HW1:Hid (MW w (w1.alloc (K #[V J 0,V J 0,I a9 0 c9] 38))):=by
  have hb:Below (dW w).heap.size (dW w) w1:=by rw [Qdm]; exact HB.out
  exact (HW.out.later hb).later ((Below.refl _ _).alloc (Nat.le_refl _) _)
 rcases hcase with h9 | ⟨h9,h8⟩
 ·go_wp2_with (refine Qaw _ (Qbp _) ?_)
  refine (KE.out _ HW1.out).mono ?_
  rintro e w3 ⟨a8,c8,W5,rfl,HST,HX,HF⟩
  obtain ⟨_,r0,r1,r2,f0,f1,f2⟩:=HX.out
  go_wp2_with (refine Qam _ _ (.pointer (Q ⟨w.heap.size,0,Z⟩)) (.agg zM) (by rfl) (by rfl) HST.out ?_)
  refine bodyPost_ret (v:=.tuple #[.agg zM,.agg #[V J 1,V J 2,I a8 0 c8]]) (Qar Tryz.results8 _ _ w.heap.size (w.heap.size+1) zM #[V J 1,V J 2,I a8 0 c8] rfl rfl HF.out.rM HF.out.rN Tryz.underlying40 rfl infoM Tryz.underlying38 rfl infoN) rfl ⟨?_,HF.out.bel⟩
  exact ⟨_,rfl,a8,c8,rfl,HF.out.own⟩
 ·go_wp2_with (refine Qaw _ (Qbp _) ?_)
  refine (KE.out _ HW1.out).mono ?_
  rintro e w3 ⟨a8,c8,W5,rfl,HST,HX,HF⟩
  obtain ⟨_,r0,r1,r2,f0,f1,f2⟩:=HX.out
  go_wp2_with (refine Qam _ _ (.pointer (Q ⟨w.heap.size,0,Z⟩)) (.agg zM) (by rfl) (by rfl) HST.out ?_)
  refine bodyPost_ret (v:=.tuple #[.agg zM,.agg #[V J 1,V J 2,I a8 0 c8]]) (Qar Tryz.results8 _ _ w.heap.size (w.heap.size+1) zM #[V J 1,V J 2,I a8 0 c8] rfl rfl HF.out.rM HF.out.rN Tryz.underlying40 rfl infoM Tryz.underlying38 rfl infoN) rfl ⟨?_,HF.out.bel⟩
  exact ⟨_,rfl,a8,c8,rfl,HF.out.own⟩
end
section
attribute [local go_sem ↓] Qbe Qba keptM_alloc Qbb
theorem Qre (g o n cp:Nat)(bs:List Nat)(w:World)(hn:bs.length=n)(hn19:19≤n)(hl:n≤5000)(hcap:n≤cp)(h:BRd w (Q ⟨g,o,Z⟩) bs)(hr:Qa6 bs=(n,0,0,[]))(hk4:bs.getD 18 0=4) :
  Calls E 8 #[I (Q ⟨g,o,Z⟩) n cp] w fun e w'=>e=.returned (.tuple #[.agg (Qbt 4 0 0 (I Z 0 0)),.agg #[V J 0,V J 0,I Z 0 0]])∧Below w.heap.size w w':=by
 have KH:=Qhm (Q ⟨g,o,Z⟩) cp bs w (by omega) (by omega) h _ hr
 rw [hn] at KH
 have HK:=Qaa KH
 obtain ⟨g',o',e9,hc⟩:=h.1.2 (by omega)
 cases e9
 have c18:w.cell? ⟨g,o+18,Z⟩=Q (V .u8 4):=by rw [hc 18 (by omega)]; show Q (Value.int .u8 ((bs.getD 18 0:Nat):Int))=_; rw [hk4]; rfl
 have zg:=World.block_lt_of_cell? w _ c18
 simp only at zg
 have H29:Hid (19≤n∧n≤5000):=⟨hn19,hl⟩
 have hz0:((n:Int) == 0)=false:=by simp; omega
 clear KH h hcap hr hn hk4 hc hl hn19
 simp only at HK
 go_enter Tryz.func8,Tryz.ntmps8
 go_wp2_with (refine Qah _ (Qav w) ?_)
 show Calls E 15 #[I (Q ⟨g,o,Z⟩) n cp] (dW w) _
 with_reducible refine HK.out.mono ?_
 rintro e w1 ⟨a9,c9,rfl,HO,HB⟩
 have HH:=Qaa (Qen a9 0 c9 HB.out zg c18)
 go_wp2_with fail
 generalize (w1.alloc (K #[V J 0,V J 0,I a9 0 c9] 38))=W at *
 refine Qb9 _ W g o n cp 4 (opi rfl) (opi rfl) (opi rfl) (opi rfl) (opi rfl) (opi rfl) (opi rfl) (opi rfl) (opi rfl) (opi rfl) rfl (by kernel_rfl)
  (by kernel_rfl) (by kernel_rfl) (by kernel_rfl) (by kernel_rfl) (by kernel_rfl) (by kernel_rfl) (by kernel_rfl) (by kernel_rfl) (by kernel_rfl) (by kernel_rfl) (by kernel_rfl)
  rfl rfl (by have:=H29.out.1; omega) (by have:=H29.out.2; omega) (by omega) HH.out.c18 ?_
 intro a W6 hfr h6 h7 bY hb6
 generalize (if cp=19 then Q (⟨g,o,Z⟩:Addr) else Q ⟨g,o+19,Z⟩)=v7 at h7
 obtain ⟨x0,x1,x2,x3,x4,x5,x6,rfl⟩:=hfr.lay9m (by exact (by decide:∀ s∈[39,40,41,42,43,44,45,6,7],s < 247)) h6 h7
 have HD:Hid (D6 w W6 w1.heap.size W.heap.size (Qbt 4 0 0 (I Z 0 0)) (I a9 0 c9)):=HH.out.d6 bY hb6
 have hsz:=HH.out.le
 have y0:W6.cell? ⟨W.heap.size,0,Z⟩=Q (V J 4):=Qai HD.out.bY 0 _ rfl
 have zY:W.heap.size < W6.heap.size:=HD.out.hs
 clear hfr h6 h7 bY hb6
 simp only [Act.put,U,D,R]
 obtain ⟨W5,HLD,HST,HX,HG⟩:=Qet (C:=(Qbt 4 0 0 (I Z 0 0))) (Y:=W.heap.size) HD.out.bM HD.out.bN HD.out.bY (MC.msg 4 0 0 Z 0 0) HD.out.bel
 obtain ⟨_,r0,r1,r2,f0,f1,f2⟩:=HX.out
 go_wp2_with (first | (refine Qbq _ (.pointer (Q ⟨W.heap.size,0,Z⟩)) (.agg (Qbt 4 0 0 (I Z 0 0))) (by rfl) HLD.out ?_) | (refine Qam _ _ (.pointer (Q ⟨w.heap.size,0,Z⟩)) (.agg (Qbt 4 0 0 (I Z 0 0))) (by rfl) (by rfl) HST.out ?_))
 refine bodyPost_ret (v:=.tuple #[.agg (Qbt 4 0 0 (I Z 0 0)),.agg #[V J 0,V J 0,I Z 0 0]]) (Qar Tryz.results8 _ _ w.heap.size (w.heap.size+1) (Qbt 4 0 0 (I Z 0 0)) #[V J 0,V J 0,I Z 0 0] rfl rfl HG.out.rM HG.out.rN Tryz.underlying40 rfl infoM Tryz.underlying38 rfl infoN) rfl ⟨rfl,HG.out.bel⟩
theorem Qts (g o n cp:Nat)(bs:List Nat)(w:World)(hn:bs.length=n)(hn21:21≤n)(hl:n≤5000)(hcap:n≤cp)(h:BRd w (Q ⟨g,o,Z⟩) bs)(hr:Qa6 bs=(n,0,0,[]))(hk3:bs.getD 18 0=3) :
  Calls E 8 #[I (Q ⟨g,o,Z⟩) n cp] w fun e w'=>(∃ a8 c8,e=.returned (.tuple #[.agg (Qbt 3 (bs.getD 19 0:Int) (bs.getD 20 0:Int) (I a8 (n - 19 - 2) c8)),.agg #[V J 0,V J 0,I Z 0 0]])∧w'.ownsRow w.heap.size 5 1 (I a8 (n - 19 - 2) c8) (n - 19 - 2) (Qal (bs.drop 21)))∧Below w.heap.size w w':=by
 have KH:=Qhm (Q ⟨g,o,Z⟩) cp bs w (by omega) (by omega) h _ hr
 rw [hn] at KH
 have HK:=Qaa KH
 obtain ⟨g',o',e9,hc⟩:=h.1.2 (by omega)
 cases e9
 have c18:w.cell? ⟨g,o+18,Z⟩=Q (V .u8 3):=by rw [hc 18 (by omega)]; show Q (Value.int .u8 ((bs.getD 18 0:Nat):Int))=_; rw [hk3]; rfl
 have zg:=World.block_lt_of_cell? w _ c18
 simp only at zg
 have hcp19:¬ cp=19:=by omega
 have hz0:((n:Int) == 0)=false:=by simp; omega
 have hni:¬ ((n:Int) < 19):=by omega
 have H29:Hid (21≤n∧n≤5000):=⟨hn21,hl⟩
 have HX19:Hid (∀ X,Below w.heap.size w X→X.cell? ⟨g,o+19,Z⟩=Q (V .u8 (bs.getD 19 0:Int))∧X.cell? ⟨g,o+19+1,Z⟩=Q (V .u8 (bs.getD 20 0:Int))∧BRd X (if cp - 19=2 then Q ⟨g,o+19,Z⟩ else Q ⟨g,o+19+2,Z⟩) (bs.drop 21)):=fun X hX=>by
  refine ⟨?_,?_,?_⟩
  ·rw [hX.cell (p:=⟨g,o+19,Z⟩) zg]; exact hc 19 (by omega)
  ·rw [hX.cell (p:=⟨g,o+19+1,Z⟩) zg]; exact hc 20 (by omega)
  ·have h19:=Qds (k:=19) (h.below hX) (by omega)
   have:=Qh1 (a:=if cp - 19=2 then Q ⟨g,o+19,Z⟩ else Q ⟨g,o+19+2,Z⟩) (k:=2) (l:=n - 21) (c:=cp - 19) h19 (by rw [T]; omega) (by rw [T]; omega) rfl
   rwa [List.drop_drop,List.take_of_length_le (by rw [T]; omega)] at this
 have hx256:bs.getD 19 0 < 256:=Qau h.2 19
 have hy256:bs.getD 20 0 < 256:=Qau h.2 20
 have hdl:(bs.drop 21).length=n - 19 - 2:=by rw [T]; omega
 have HDL:=Qaa hdl
 clear KH h hcap hr hn hk3 hc hl hn21 hdl
 simp only at HK
 generalize bs.getD 19 0=x at *
 generalize bs.getD 20 0=y at *
 generalize bs.drop 21=d at *
 go_enter Tryz.func8,Tryz.ntmps8
 go_wp2_with (refine Qah _ (Qav w) ?_)
 show Calls E 15 #[I (Q ⟨g,o,Z⟩) n cp] (dW w) _
 with_reducible refine HK.out.mono ?_
 rintro e w1 ⟨a9,c9,rfl,HO,HB⟩
 have HH:=Qaa (Qen a9 0 c9 HB.out zg c18)
 go_wp2_with fail
 generalize (w1.alloc (K #[V J 0,V J 0,I a9 0 c9] 38))=W at *
 refine Qb9 _ W g o n cp 3 (opi rfl) (opi rfl) (opi rfl) (opi rfl) (opi rfl) (opi rfl) (opi rfl) (opi rfl) (opi rfl) (opi rfl) rfl (by kernel_rfl)
  (by kernel_rfl) (by kernel_rfl) (by kernel_rfl) (by kernel_rfl) (by kernel_rfl) (by kernel_rfl) (by kernel_rfl) (by kernel_rfl) (by kernel_rfl) (by kernel_rfl) (by kernel_rfl)
  rfl rfl (by have:=H29.out.1; omega) (by have:=H29.out.2; omega) (by omega) HH.out.c18 ?_
 intro a W6 hfr h6 h7 bY hb6
 rw [if_neg hcp19] at h7
 obtain ⟨x0,x1,x2,x3,x4,x5,x6,rfl⟩:=hfr.lay9m (by exact (by decide:∀ s∈[39,40,41,42,43,44,45,6,7],s < 247)) h6 h7
 have HD:Hid (D6 w W6 w1.heap.size W.heap.size (Qbt 3 0 0 (I Z 0 0)) (I a9 0 c9)):=HH.out.d6 bY hb6
 have hsz:=HH.out.le
 have y0:W6.cell? ⟨W.heap.size,0,Z⟩=Q (V J 3):=Qai HD.out.bY 0 _ rfl
 have zY:W.heap.size < W6.heap.size:=HD.out.hs
 clear hfr h6 h7 bY hb6
 simp only [Act.put,U,D,R]
 go_wp2_with fail
 obtain ⟨q19,q20,qd⟩:=HX19.out W6 HD.out.bel
 refine Qt4 _ W6 W.heap.size g (o+19) (n - 19) (cp - 19) x y d (opi rfl) (opi rfl) (opi rfl) (opi rfl) (opi rfl) (opi rfl) (opi rfl) (opi rfl) (opi rfl) (opi rfl) (opi rfl) (opi rfl) (opi rfl) rfl (by kernel_rfl)
  (by kernel_rfl) (by kernel_rfl) (by kernel_rfl) (by kernel_rfl) (by kernel_rfl) (by kernel_rfl) (by kernel_rfl) (by kernel_rfl) (by kernel_rfl) (by kernel_rfl) (by kernel_rfl) (by kernel_rfl) (by kernel_rfl) (by kernel_rfl)
  rfl rfl rfl (by have:=H29.out; omega) (by have:=H29.out; omega) hx256 hy256 q19 q20 (by have:=HD.out.hX; have:=HD.out.hY; omega) HD.out.bY HDL.out (fun X hX=>(HX19.out X (HD.out.bel.trans (hX.mono HD.out.bel.size))).2.2) ?_
 intro a W8 W9 a8 c8 hfr hb8 ho8 hk9 b9 z9
 obtain ⟨y0',y1',y2',y3',y4',y5',y6',y7',y8',y9',y10',y11',rfl⟩:=hfr.lay12 (by exact (by decide:∀ s∈[233,234,235,236,237,238,239,240,241,242,243,244],s < 247))
 have zx:w1.heap.size≠W.heap.size∧w.heap.size+2≤w1.heap.size∧w1.heap.size < W.heap.size:=by have:=HD.out.hX; have:=HD.out.hY; omega
 have keepB:∀ j,j < W6.heap.size→j≠W.heap.size→W9.heap[j]?=W6.heap[j]?:=fun j hj hne=>by rw [hk9.block j (by have:=hb8.size; omega) hne,hb8.block j hj]
 have H9M:Hid (W9.heap[w.heap.size]?=Q (K zM 40 (0,0))):=by show _=_; rw [keepB _ (by omega) (by omega)]; exact HD.out.bM
 have H9N:Hid (W9.heap[w.heap.size+1]?=Q (K #[V J 0,V J 0,I Z 0 0] 38 (0,0))):=by show _=_; rw [keepB _ (by omega) (by omega)]; exact HD.out.bN
 have H9Y:=Qaa b9
 have B9:Hid (Below w.heap.size w W9):=HD.out.bel.trans ((hb8.mono HD.out.bel.size).trans (hk9.below _ (by have:=HD.out.bel.size; have:=hb8.size; omega) (fun x e=>by omega)))
 have HOW9:Hid (W9.ownsRow W6.heap.size 5 1 (I a8 (n - 19 - 2) c8) (n - 19 - 2) (Qal d)):=Qas ho8 hk9 (fun x hx=>by omega)
 have zYx:W.heap.size < W9.heap.size:=(Array.getElem?_eq_some_iff.1 b9).1
 clear hfr hb8 ho8 hk9 b9 z9 keepB q19 q20 qd
 simp only [Act.put,U,D,R]
 obtain ⟨W5,HLD,HST,HX,HG⟩:=Qet (C:=(Qbt 3 (x:Int) (y:Int) (I a8 (n - 19 - 2) c8))) (Y:=W.heap.size) H9M.out H9N.out H9Y.out (MC.msg 3 (x:Int) (y:Int) a8 (n - 19 - 2) c8) B9.out
 obtain ⟨_,r0,r1,r2,f0,f1,f2⟩:=HX.out
 go_wp2_with (first | (refine Qbq _ (.pointer (Q ⟨W.heap.size,0,Z⟩)) (.agg (Qbt 3 (x:Int) (y:Int) (I a8 (n - 19 - 2) c8))) (by rfl) HLD.out ?_) | (refine Qam _ _ (.pointer (Q ⟨w.heap.size,0,Z⟩)) (.agg (Qbt 3 (x:Int) (y:Int) (I a8 (n - 19 - 2) c8))) (by rfl) (by rfl) HST.out ?_))
 refine bodyPost_ret (v:=.tuple #[.agg (Qbt 3 (x:Int) (y:Int) (I a8 (n - 19 - 2) c8)),.agg #[V J 0,V J 0,I Z 0 0]]) (Qar Tryz.results8 _ _ w.heap.size (w.heap.size+1) (Qbt 3 (x:Int) (y:Int) (I a8 (n - 19 - 2) c8)) #[V J 0,V J 0,I Z 0 0] rfl rfl HG.out.rM HG.out.rN Tryz.underlying40 rfl infoM Tryz.underlying38 rfl infoN) rfl ⟨⟨a8,c8,rfl,Qa0 (Qas HOW9.out HG.out.keep (fun x hx=>by have:=HD.out.hY; have:=HD.out.hs; omega)) (by have:=HD.out.bel.size; omega)⟩,HG.out.bel⟩
end
