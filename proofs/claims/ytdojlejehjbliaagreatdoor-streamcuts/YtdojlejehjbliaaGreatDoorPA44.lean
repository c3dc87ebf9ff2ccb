import Derived.Test.YtdojlejehjbliaaGreatDoorPA39
import Derived.Test.YtdojlejehjbliaaGreatDoorPA42
import Derived.Test.YtdojlejehjbliaaGreatDoorPA43
namespace Go.Proofs.YtdojlejehjbliaaGreatDoor
set_option maxHeartbeats 4000000
open _root_.Go.Value renaming bool → I,int → J,slice → Z
open _root_.Go.IntKind renaming i64 → V
open _root_.Go.Obj renaming cells → Y
open _root_.Option renaming none → U,some → K
open _root_.Go.Proofs.Tryz renaming prog → E
open _root_.List renaming setIfInBounds_toArray → D,length_drop → R,set_cons_zero → T,set_cons_succ → L
open Go.RowKit
set_option maxRecDepth 100000
def NtK (w X:World)(k s:Nat)(a:Option Addr)(n cap:Nat)(d:List Nat):Prop:=Calls E 23 #[J V (k:Int),J V (s:Int),Z a n cap] X fun e w3=>∃ a9 c9 W5,e=.returned (.agg #[J V (k:Int),J V (s:Int),Z a9 n c9])∧Hid ((Instr.storeAt 40 (.pointer (K ⟨w.heap.size,0,U⟩)) (.agg zM)).run E w3=.ok () W5)∧Hid (Qc3 W5 (w.heap.size+1))∧Hid (Jbf w W5 k s d a9 n c9)
structure RF (g o n cp lo:Nat) (kd:Int) (bs:List Nat) (w:World):Prop where
 c18:w.cell? ⟨g,o+18,U⟩=K (J .u8 kd)
 zg:g < w.heap.size
 hk:Hid (Calls E 15 #[Z (K ⟨g,o,U⟩) n cp] (dW w) fun e w1=>∃ a9 c9,e=.returned (.tuple #[J V (n:Int),.agg #[J V 0,J V 0,Z a9 0 c9]])∧Hid (Below (w.heap.size+2) (dW w) w1))
 hC:Hid (∀ X,Below w.heap.size w X→∀ k,k < n - 19→X.cell? ⟨g,o+19+k,U⟩=K (J .u8 ((bs.drop 19).getD k 0:Int)))
 lt:Hid (∀ k,(bs.drop 19).getD k 0 < 256)
 nc:Hid (lo≤n - 19∧n - 19≤cp - 19∧n - 19≤5000)
 h29:Hid (lo+19≤n∧n≤5000)
 hcp:¬ cp=19
 hz0:((n:Int) == 0)=false
 hB:BRd w (K ⟨g,o+19,U⟩) (bs.drop 19)
 hBl:(bs.drop 19).length=n - 19
 ke:Hid (∀ k X s,MW w X→NtK w X k s U 0 0 [])
theorem Qb5 (g o n cp lo:Nat)(bs:List Nat)(w:World)(kd:Int)(hn:bs.length=n)(hlo:lo+19≤n)(h1:1≤lo)(hl:n≤5000)(hcap:n≤cp)(h:BRd w (K ⟨g,o,U⟩) bs)(hr:Qa6 bs=(n,0,0,[]))(hk:((bs.getD 18 0:Nat):Int)=kd):RF g o n cp lo kd bs w:=by
 have KH:=Qhm (K ⟨g,o,U⟩) cp bs w (by omega) (by omega) h _ hr
 rw [hn] at KH
 obtain ⟨g',o',e9,hc⟩:=h.1.2 (by omega)
 cases e9
 have c18:w.cell? ⟨g,o+18,U⟩=K (J .u8 kd):=by rw [hc 18 (by omega),← hk]
 have zg:=World.block_lt_of_cell? w _ c18
 simp only at zg
 have hB:=Qds (k:=19) h (by omega)
 have hBl:(bs.drop 19).length=n - 19:=by rw [R,hn]
 refine ⟨c18,zg,?_,fun X hX k hk=>?_,fun k=>Qau hB.2 k,⟨by omega,by omega,by omega⟩,⟨hlo,hl⟩,by omega,by simp; omega,hB,hBl,fun k X s hX=>Qly w X hX k s U 0 0 [] rfl (by decide) (Qbf _ _)⟩
 ·refine KH.mono ?_
  rintro e w1 ⟨a9,c9,rfl,_,hb⟩
  exact ⟨a9,c9,rfl,hb⟩
 ·obtain ⟨g',o',e9,hc⟩:=hB.1.2 (by omega)
  cases e9
  rw [hX.cell (p:=⟨g,o+19+k,U⟩) zg]
  exact hc k (by omega)
theorem Qzy {w:World} : Hid (∀ X q,MW w X→X.heap[q]?=K (Y #[J .u8 0,J .u8 4] 5 (0,0))→NtK w X 2 1 (K ⟨q,0,U⟩) 2 2 [0,4]):=fun X q hX hq=>Qly w X hX 2 1 (K ⟨q,0,U⟩) 2 2 [0,4] rfl (by decide) ⟨⟨by simp [maxLen],fun _=>⟨_,0,rfl,fun i hi=>by
   have hr:=Qai hq
   match i,hi with
   | 0,_=>exact hr 0 _ rfl
   | 1,_=>exact hr 1 _ rfl⟩⟩,by simp⟩
theorem Qrk {g o n cp lo:Nat}{kd:Int}{bs:List Nat}{w:World} (h:RF g o n cp lo kd bs w) (h10:10≤n - 19) (r:Option Cp) (hr:Qfc ((bs.drop 19).drop 10)=r):Hid (∀ X,Below w.heap.size w X→Calls E 24 #[Z (if cp - 19=10 then K ⟨g,o+19,U⟩ else K ⟨g,o+19+10,U⟩) (n - 19 - 10) (cp - 19 - 10)] X fun e w'=>e=.returned (Qpy r)∧Hid (Below X.heap.size X w')):=fun X hX=>by
 subst hr
 obtain ⟨_,n1,n2⟩:=h.nc.out
 have hpl:((bs.drop 19).drop 10).length=n - 19 - 10:=by rw [R,h.hBl]
 have hb:=Qh1 (a:=if cp - 19=10 then K ⟨g,o+19,U⟩ else K ⟨g,o+19+10,U⟩) (k:=10) (l:=n - 19 - 10) (c:=cp - 19) (h.hB.below hX) (by rw [h.hBl]; omega) (by rw [h.hBl]; omega) rfl
 rw [List.take_of_length_le (by rw [hpl]; omega)] at hb
 have:=Qse _ (cp - 19 - 10) _ X (by rw [hpl]; omega) (by rw [hpl]; omega) hb
 rw [hpl] at this
 exact this.mono fun e w' h=>⟨h.1,h.2⟩
def PfK (X:World)(a:Option Addr)(n cap:Nat)(P:List (Nat×Nat))(b:Bool):Prop:=Calls E 26 #[Z a n cap] X fun e w'=>(∃ a c,e=.returned (.tuple #[Z a P.length c,I b])∧Hid (w'.ownsRow X.heap.size 94 2 (Z a P.length c) P.length (pcells P)))∧Hid (Below X.heap.size X w')
theorem Qs7 {X:World}{g o n cap:Nat}{l:List Nat}{P:List (Nat×Nat)}{b:Bool} (hn:l.length=n) (hl:n≤5000) (hc:n≤cap) (h:BRd X (K ⟨g,o,U⟩) l) (hP:(Qda l).getD []=P) (hb:(Qda l).isSome=b):PfK X (K ⟨g,o,U⟩) n cap P b:=by
 have h9:=Qrp g o n cap l X hn hl hc h
 rw [hP,hb] at h9
 exact h9.mono fun e w' ⟨⟨a,c,e1,e2⟩,e3⟩=>⟨⟨a,c,e1,e2⟩,e3⟩
theorem Qon {g o n cp lo:Nat}{kd:Int}{bs:List Nat}{w:World} (h:RF g o n cp lo kd bs w) {G:Nat} (hu:G+4≤n - 19) {P:List (Nat×Nat)}{b:Bool} (hP:(Qda (((bs.drop 19).drop 2).take G)).getD []=P) (hb:(Qda (((bs.drop 19).drop 2).take G)).isSome=b) :
  Hid (∀ X,Below w.heap.size w X→PfK X (K ⟨g,o+19+2,U⟩) (2+G - 2) (cp - 19 - 2) P b):=fun X hX=>by
 obtain ⟨_,n1,n2⟩:=h.nc.out
 exact Qs7 (by rw [List.length_take,R,h.hBl]; omega) (by omega) (by omega) (Qcq (h.hB.below hX) 2 G (by rw [h.hBl]; omega)) hP hb
theorem Qoi {g o n cp lo:Nat}{kd:Int}{bs:List Nat}{w:World} (h:RF g o n cp lo kd bs w) {G A:Nat} (hu:G+4+A≤n - 19) {Q:List (Nat×Nat)}{b:Bool} (hQ:(Qda ((bs.drop 19).drop (G+4+A))).getD []=Q) (hb:(Qda ((bs.drop 19).drop (G+4+A))).isSome=b) :
  Hid (∀ X,Below w.heap.size w X→PfK X (if cp - 19=4+G+A then K ⟨g,o+19,U⟩ else K ⟨g,o+19+(4+G+A),U⟩) (n - 19 - (4+G+A)) (cp - 19 - (4+G+A)) Q b):=fun X hX=>by
 obtain ⟨_,n1,n2⟩:=h.nc.out
 have hs:=Qh1 (a:=if cp - 19=4+G+A then K ⟨g,o+19,U⟩ else K ⟨g,o+19+(4+G+A),U⟩) (k:=4+G+A) (l:=n - 19 - (4+G+A)) (c:=cp - 19) (h.hB.below hX) (by rw [h.hBl]; omega) (by rw [h.hBl]; omega) rfl
 rw [List.take_of_length_le (by rw [R,h.hBl]; omega)] at hs
 have e4:4+G+A=G+4+A:=by omega
 have hl:((bs.drop 19).drop (4+G+A)).length=n - 19 - (4+G+A):=by rw [R,h.hBl]
 rw [← e4] at hQ hb
 by_cases e10:cp - 19=4+G+A
 ·rw [if_pos e10] at hs ⊢
  exact Qs7 hl (by omega) (by omega) hs hQ hb
 ·rw [if_neg e10] at hs ⊢
  exact Qs7 hl (by omega) (by omega) hs hQ hb
theorem Qws {g o n cp lo:Nat}{kd:Int}{bs:List Nat}{w:World} (h:RF g o n cp lo kd bs w) {G A:Nat} (hu:G+4+A≤n - 19) {r:Res} (hr:Qbv (((bs.drop 19).drop (4+G)).take A)=r) :
  Hid (∀ X,Below w.heap.size w X→Calls E 27 #[Z (K ⟨g,o+19+(4+G),U⟩) (4+G+A - (4+G)) (cp - 19 - (4+G))] X fun e w'=>Qj0 X w' r e∧Hid (Below X.heap.size X w')):=fun X hX=>by
 subst hr
 obtain ⟨_,n1,n2⟩:=h.nc.out
 have hl:(((bs.drop 19).drop (4+G)).take A).length=4+G+A - (4+G):=by rw [List.length_take,R,h.hBl]; omega
 have h9:=Qva (K ⟨g,o+19+(4+G),U⟩) (cp - 19 - (4+G)) (((bs.drop 19).drop (4+G)).take A) X (by rw [hl]; omega) (by rw [hl]; omega) (Qcq (h.hB.below hX) (4+G) A (by rw [h.hBl]; omega))
 rw [hl] at h9
 exact h9.mono fun e w' h=>⟨h.1,h.2⟩
section
attribute [local go_sem ↓] Qbe Qba keptM_alloc Qbb
theorem Qu5 (g o n cp:Nat)(bs:List Nat)(w:World)(hn:bs.length=n)(hn29:29≤n)(hl:n≤5000)(hcap:n≤cp)(h:BRd w (K ⟨g,o,U⟩) bs)(hr:Qa6 bs=(n,0,0,[]))(hk1:bs.getD 18 0=1)(hv:(bs.drop 19).getD 0 0≠4) :
  Calls E 8 #[Z (K ⟨g,o,U⟩) n cp] w fun e w'=>Qdd w w' e 2 1 [0,4]∧Below w.heap.size w w':=by
 have KH:=Qb5 g o n cp 10 bs w 1 hn (by omega) (by omega) hl hcap h hr (by rw [hk1]; rfl)
 have hF:=KH
 obtain ⟨c18,zg,HK,HC,HLT,HNC,H29,hcp19,hz0,hB,HBl,KE⟩:=hF
 unfold NtK at KE
 have hvi:(((bs.drop 19).getD 0 0:Int) != 4)=true:=bne_iff_ne.2 (by omega)
 have KE1:=Qzy (w:=w)
 unfold NtK at KE1
 clear hv KE KH h hcap hr hn hk1 hl hn29 hB HBl
 unfold Qdd Qby
 go_enter Tryz.func8,Tryz.ntmps8
 go_wp2_with (refine Qah _ (Qav w) ?_)
 show Calls E 15 #[Z (K ⟨g,o,U⟩) n cp] (dW w) _
 with_reducible refine HK.out.mono ?_
 rintro e w1 ⟨a9,c9,rfl,HB⟩
 have HH:=Qaa (Qen a9 0 c9 HB.out zg c18)
 go_wp2_with fail
 generalize (w1.alloc (Y #[J V 0,J V 0,Z a9 0 c9] 38))=W at *
 refine Qb9 _ W g o n cp 1 (opi rfl) (opi rfl) (opi rfl) (opi rfl) (opi rfl) (opi rfl) (opi rfl) (opi rfl) (opi rfl) (opi rfl) rfl (by kernel_rfl)
  (by kernel_rfl) (by kernel_rfl) (by kernel_rfl) (by kernel_rfl) (by kernel_rfl) (by kernel_rfl) (by kernel_rfl) (by kernel_rfl) (by kernel_rfl) (by kernel_rfl) (by kernel_rfl)
  rfl rfl (by have:=H29.out.1; omega) (by have:=H29.out.2; omega) (by omega) HH.out.c18 ?_
 intro a W6 hfr h6 h7 bY hb6
 rw [if_neg hcp19] at h7
 obtain ⟨x0,x1,x2,x3,x4,x5,x6,rfl⟩:=hfr.lay9m (by exact (by decide:∀ s∈[39,40,41,42,43,44,45,6,7],s < 247)) h6 h7
 have HD:Hid (D6 w W6 w1.heap.size W.heap.size (Qbt 1 0 0 (Z U 0 0)) (Z a9 0 c9)):=HH.out.d6 bY hb6
 have y0:W6.cell? ⟨W.heap.size,0,U⟩=K (J V 1):=Qai HD.out.bY 0 _ rfl
 have zY:W.heap.size < W6.heap.size:=HD.out.hs
 have HZ:=Qaa HH.out.sz
 have HBW2:=Qaa HH.out.bel
 have hsz:=HH.out.le
 clear hfr h6 h7 bY hb6
 simp only [Act.put,D,T,L]
 have HMW:Hid (MW w W6):=⟨HD.out.bM,HD.out.bN,HD.out.bel⟩
 have q0:=HC.out W6 HD.out.bel 0 (by have:=HNC.out; omega)
 rw [Nat.add_zero] at q0
 have hN0:¬ n - 19=0:=by have:=HNC.out; omega
 generalize (bs.drop 19).getD 0 0=v0 at *
 generalize n - 19=N at *
 generalize cp - 19=CP at *
 have hN0i:(0:Int) < (N:Int):=by omega
 clear HC HLT
 go_wp2_with (refine Qaw _ (Qbp _) ?_)
 refine (KE1.out _ W6.heap.size (HMW.out.later ((Below.refl _ _).alloc (Nat.le_refl _) _)) (heap_alloc_new W6 _)).mono ?_
 rintro e w3 ⟨a8,c8,W5,rfl,HST,HX,HF⟩
 obtain ⟨_,r0,r1,r2,f0,f1,f2⟩:=HX.out
 go_wp2_with (refine Qam _ _ (.pointer (K ⟨w.heap.size,0,U⟩)) (.agg zM) (by rfl) (by rfl) HST.out ?_)
 refine bodyPost_ret (v:=.tuple #[.agg zM,.agg #[J V 2,J V 1,Z a8 2 c8]]) (Qar Tryz.results8 _ _ w.heap.size (w.heap.size+1) zM #[J V 2,J V 1,Z a8 2 c8] rfl rfl HF.out.rM HF.out.rN Tryz.underlying40 rfl infoM Tryz.underlying38 rfl infoN) rfl ⟨?_,HF.out.bel⟩
 exact ⟨_,rfl,a8,c8,rfl,HF.out.own⟩
theorem Qou (g o n cp:Nat)(bs:List Nat)(w:World)(hn:bs.length=n)(hn29:29≤n)(hl:n≤5000)(hcap:n≤cp)(h:BRd w (K ⟨g,o,U⟩) bs)(hr:Qa6 bs=(n,0,0,[]))(hk1:bs.getD 18 0=1)(h4:(bs.drop 19).getD 0 0=4)(hrc:Qfc ((bs.drop 19).drop 10)=U) :
  Calls E 8 #[Z (K ⟨g,o,U⟩) n cp] w fun e w'=>Qdd w w' e 2 0 []∧Below w.heap.size w w':=by
 have KH:=Qb5 g o n cp 10 bs w 1 hn (by omega) (by omega) hl hcap h hr (by rw [hk1]; rfl)
 have hF:=KH
 obtain ⟨c18,zg,HK,HC,HLT,HNC,H29,hcp19,hz0,hB,HBl,KE⟩:=hF
 unfold NtK at KE
 have KR:=Qrk KH (by omega) _ hrc
 simp only [Qpy,Qga,cp0,Option.getD_none,Option.isSome_none] at KR
 clear hrc KH h hcap hr hn hk1 hl hn29 hB HBl
 unfold Qdd Qby
 go_enter Tryz.func8,Tryz.ntmps8
 go_wp2_with (refine Qah _ (Qav w) ?_)
 show Calls E 15 #[Z (K ⟨g,o,U⟩) n cp] (dW w) _
 with_reducible refine HK.out.mono ?_
 rintro e w1 ⟨a9,c9,rfl,HB⟩
 have HH:=Qaa (Qen a9 0 c9 HB.out zg c18)
 go_wp2_with fail
 generalize (w1.alloc (Y #[J V 0,J V 0,Z a9 0 c9] 38))=W at *
 refine Qb9 _ W g o n cp 1 (opi rfl) (opi rfl) (opi rfl) (opi rfl) (opi rfl) (opi rfl) (opi rfl) (opi rfl) (opi rfl) (opi rfl) rfl (by kernel_rfl)
  (by kernel_rfl) (by kernel_rfl) (by kernel_rfl) (by kernel_rfl) (by kernel_rfl) (by kernel_rfl) (by kernel_rfl) (by kernel_rfl) (by kernel_rfl) (by kernel_rfl) (by kernel_rfl)
  rfl rfl (by have:=H29.out.1; omega) (by have:=H29.out.2; omega) (by omega) HH.out.c18 ?_
 intro a W6 hfr h6 h7 bY hb6
 rw [if_neg hcp19] at h7
 obtain ⟨x0,x1,x2,x3,x4,x5,x6,rfl⟩:=hfr.lay9m (by exact (by decide:∀ s∈[39,40,41,42,43,44,45,6,7],s < 247)) h6 h7
 have HD:Hid (D6 w W6 w1.heap.size W.heap.size (Qbt 1 0 0 (Z U 0 0)) (Z a9 0 c9)):=HH.out.d6 bY hb6
 have y0:W6.cell? ⟨W.heap.size,0,U⟩=K (J V 1):=Qai HD.out.bY 0 _ rfl
 have zY:W.heap.size < W6.heap.size:=HD.out.hs
 have HZ:=Qaa HH.out.sz
 have HBW2:=Qaa HH.out.bel
 have hsz:=HH.out.le
 clear hfr h6 h7 bY hb6
 simp only [Act.put,D,T,L]
 have HMW:Hid (MW w W6):=⟨HD.out.bM,HD.out.bN,HD.out.bel⟩
 have q0:=HC.out W6 HD.out.bel 0 (by have:=HNC.out; omega)
 rw [Nat.add_zero,h4] at q0
 have HBL:=Qaa HD.out.bel
 generalize n - 19=N at *
 generalize cp - 19=CP at *
 obtain ⟨hN10,hNC,hN5⟩:=HNC.out
 have HN5:=Qaa hN5
 have hN0i:(0:Int) < (N:Int):=by omega
 have hN10i:(10:Int)≤(N:Int):=by omega
 have hN9i:(9:Int) < (N:Int):=by omega
 have hN5i:(N:Int)≤5000:=by omega
 clear hN5
 by_cases e10:CP=10
 rotate_left
 simp only [if_neg e10] at KR
 rotate_left
 have e10n:N=10:=by omega
 subst e10 e10n
 simp only [Nat.sub_self,↓reduceIte] at KR
 all_goals (
  go_wp2_with fail
  with_reducible refine (KR.out _ HBL.out).mono ?_
  rintro e w2 ⟨rfl,HB2⟩
  have HBA:Hid (Below W6.heap.size W6 (w2.alloc (Y #[I false,J V 0,I false,I false,J V 0,I false,I false,I false,J V 0] 26))):=HB2.out.alloc HB2.out.size _
  have HMA:=Qaa (HMW.out.later HBA.out)
  go_wp2_with (refine Qaw _ (Qbp _) ?_)
  refine (KE.out 2 _ 0 HMA.out).mono ?_
  rintro e w3 ⟨a8,c8,W5,rfl,HST,HX,HF⟩
  obtain ⟨_,r0,r1,r2,f0,f1,f2⟩:=HX.out
  go_wp2_with (refine Qam _ _ (.pointer (K ⟨w.heap.size,0,U⟩)) (.agg zM) (by rfl) (by rfl) HST.out ?_)
  refine bodyPost_ret (v:=.tuple #[.agg zM,.agg #[J V 2,J V 0,Z a8 0 c8]]) (Qar Tryz.results8 _ _ w.heap.size (w.heap.size+1) zM #[J V 2,J V 0,Z a8 0 c8] rfl rfl HF.out.rM HF.out.rN Tryz.underlying40 rfl infoM Tryz.underlying38 rfl infoN) rfl ⟨?_,HF.out.bel⟩
  exact ⟨_,rfl,a8,c8,rfl,HF.out.own⟩
 )
theorem Qpw (g o n cp:Nat)(bs:List Nat)(w:World)(hn:bs.length=n)(hn29:29≤n)(hl:n≤5000)(hcap:n≤cp)(h:BRd w (K ⟨g,o,U⟩) bs)(hr:Qa6 bs=(n,0,0,[]))(hk1:bs.getD 18 0=1)(h4:(bs.drop 19).getD 0 0=4)(cc:Cp)(hrc:Qfc ((bs.drop 19).drop 10)=K cc)(h9:(bs.drop 19).getD 9 0≠n - 19 - 10) :
  Calls E 8 #[Z (K ⟨g,o,U⟩) n cp] w fun e w'=>Qdd w w' e 2 0 []∧Below w.heap.size w w':=by
 have KH:=Qb5 g o n cp 10 bs w 1 hn (by omega) (by omega) hl hcap h hr (by rw [hk1]; rfl)
 have hF:=KH
 obtain ⟨c18,zg,HK,HC,HLT,HNC,H29,hcp19,hz0,hB,HBl,KE⟩:=hF
 unfold NtK at KE
 have KR:=Qrk KH (by omega) _ hrc
 simp only [Qpy,Qga,Option.getD_some,Option.isSome_some] at KR
 have h9i:(((bs.drop 19).getD 9 0:Int) != ((n - 19:Nat):Int) - 10)=true:=bne_iff_ne.2 (by omega)
 clear hrc h9 KH h hcap hr hn hk1 hl hn29 hB HBl
 unfold Qdd Qby
 obtain ⟨four,as4,gr,rs,tm,fam,fwd,ll,lt⟩:=cc
 simp only at KR
 go_enter Tryz.func8,Tryz.ntmps8
 go_wp2_with (refine Qah _ (Qav w) ?_)
 show Calls E 15 #[Z (K ⟨g,o,U⟩) n cp] (dW w) _
 with_reducible refine HK.out.mono ?_
 rintro e w1 ⟨a9,c9,rfl,HB⟩
 have HH:=Qaa (Qen a9 0 c9 HB.out zg c18)
 go_wp2_with fail
 generalize (w1.alloc (Y #[J V 0,J V 0,Z a9 0 c9] 38))=W at *
 refine Qb9 _ W g o n cp 1 (opi rfl) (opi rfl) (opi rfl) (opi rfl) (opi rfl) (opi rfl) (opi rfl) (opi rfl) (opi rfl) (opi rfl) rfl (by kernel_rfl)
  (by kernel_rfl) (by kernel_rfl) (by kernel_rfl) (by kernel_rfl) (by kernel_rfl) (by kernel_rfl) (by kernel_rfl) (by kernel_rfl) (by kernel_rfl) (by kernel_rfl) (by kernel_rfl)
  rfl rfl (by have:=H29.out.1; omega) (by have:=H29.out.2; omega) (by omega) HH.out.c18 ?_
 intro a W6 hfr h6 h7 bY hb6
 rw [if_neg hcp19] at h7
 obtain ⟨x0,x1,x2,x3,x4,x5,x6,rfl⟩:=hfr.lay9m (by exact (by decide:∀ s∈[39,40,41,42,43,44,45,6,7],s < 247)) h6 h7
 have HD:Hid (D6 w W6 w1.heap.size W.heap.size (Qbt 1 0 0 (Z U 0 0)) (Z a9 0 c9)):=HH.out.d6 bY hb6
 have y0:W6.cell? ⟨W.heap.size,0,U⟩=K (J V 1):=Qai HD.out.bY 0 _ rfl
 have zY:W.heap.size < W6.heap.size:=HD.out.hs
 have HZ:=Qaa HH.out.sz
 have HBW2:=Qaa HH.out.bel
 have hsz:=HH.out.le
 clear hfr h6 h7 bY hb6
 simp only [Act.put,D,T,L]
 have HMW:Hid (MW w W6):=⟨HD.out.bM,HD.out.bN,HD.out.bel⟩
 have q0:=HC.out W6 HD.out.bel 0 (by have:=HNC.out; omega)
 rw [Nat.add_zero,h4] at q0
 have HBL:=Qaa HD.out.bel
 generalize n - 19=N at *
 generalize cp - 19=CP at *
 obtain ⟨hN10,hNC,hN5⟩:=HNC.out
 have HN5:=Qaa hN5
 have hN0i:(0:Int) < (N:Int):=by omega
 have hN10i:(10:Int)≤(N:Int):=by omega
 have hN9i:(9:Int) < (N:Int):=by omega
 have hN5i:(N:Int)≤5000:=by omega
 clear hN5
 by_cases e10:CP=10
 rotate_left
 simp only [if_neg e10] at KR
 rotate_left
 have e10n:N=10:=by omega
 subst e10 e10n
 simp only [Nat.sub_self,↓reduceIte] at KR
 all_goals (
  go_wp2_with fail
  with_reducible refine (KR.out _ HBL.out).mono ?_
  rintro e w2 ⟨rfl,HB2⟩
  have HBA:Hid (Below W6.heap.size W6 (w2.alloc (Y #[I four,J V as4,I gr,I rs,J V tm,I fam,I fwd,I ll,J V lt] 26))):=HB2.out.alloc HB2.out.size _
  have HMA:=Qaa (HMW.out.later HBA.out)
  have q9:(w2.alloc (Y #[I four,J V as4,I gr,I rs,J V tm,I fam,I fwd,I ll,J V lt] 26)).cell? ⟨g,o+19+9,U⟩=K (J .u8 ((bs.drop 19).getD 9 0:Int)):=HC.out _ (HBL.out.trans (HBA.out.mono HBL.out.size)) 9 (by omega)
  have hl9:=HLT.out 9
  generalize (bs.drop 19).getD 9 0=v9 at *
  clear HC HLT
  have HZ9:g < (w2.alloc (Y #[I four,J V as4,I gr,I rs,J V tm,I fam,I fwd,I ll,J V lt] 26)).heap.size:=by have:=HBL.out.size; have:=HBA.out.size; omega
  go_wp2_with (refine Qaw _ (Qbp _) ?_)
  refine (KE.out 2 _ 0 HMA.out).mono ?_
  rintro e w3 ⟨a8,c8,W5,rfl,HST,HX,HF⟩
  obtain ⟨_,r0,r1,r2,f0,f1,f2⟩:=HX.out
  go_wp2_with (refine Qam _ _ (.pointer (K ⟨w.heap.size,0,U⟩)) (.agg zM) (by rfl) (by rfl) HST.out ?_)
  refine bodyPost_ret (v:=.tuple #[.agg zM,.agg #[J V 2,J V 0,Z a8 0 c8]]) (Qar Tryz.results8 _ _ w.heap.size (w.heap.size+1) zM #[J V 2,J V 0,Z a8 0 c8] rfl rfl HF.out.rM HF.out.rN Tryz.underlying40 rfl infoM Tryz.underlying38 rfl infoN) rfl ⟨?_,HF.out.bel⟩
  exact ⟨_,rfl,a8,c8,rfl,HF.out.own⟩
 )
end
section
attribute [local go_sem ↓] Qbe Qba keptM_alloc Qbb
theorem Qxi (g o n cp:Nat)(bs:List Nat)(w:World)(hn:bs.length=n)(hn29:29≤n)(hl:n≤5000)(hcap:n≤cp)(h:BRd w (K ⟨g,o,U⟩) bs)(hr:Qa6 bs=(n,0,0,[]))(hk1:bs.getD 18 0=1)(h4:(bs.drop 19).getD 0 0=4)(cc:Cp)(hrc:Qfc ((bs.drop 19).drop 10)=K cc)(h9:(bs.drop 19).getD 9 0=n - 19 - 10)(sa:Nat)(hsa:sa=256 * (bs.drop 19).getD 1 0+(bs.drop 19).getD 2 0)(h0:sa=0) :
  Calls E 8 #[Z (K ⟨g,o,U⟩) n cp] w fun e w'=>Qdd w w' e 2 2 []∧Below w.heap.size w w':=by
 have KH:=Qb5 g o n cp 10 bs w 1 hn (by omega) (by omega) hl hcap h hr (by rw [hk1]; rfl)
 have hF:=KH
 obtain ⟨c18,zg,HK,HC,HLT,HNC,H29,hcp19,hz0,hB,HBl,KE⟩:=hF
 unfold NtK at KE
 have KR:=Qrk KH (by omega) _ hrc
 simp only [Qpy,Qga,Option.getD_some,Option.isSome_some] at KR
 have h9i:(((bs.drop 19).getD 9 0:Int) != ((n - 19:Nat):Int) - 10)=false:=by rw [bne_eq_false_iff_eq]; omega
 have h0i:((sa:Int) == 0)=true:=by rw [h0]; rfl
 clear hrc h9 KH h hcap hr hn hk1 hl hn29 hB HBl
 unfold Qdd Qby
 obtain ⟨four,as4,gr,rs,tm,fam,fwd,ll,lt⟩:=cc
 simp only at KR
 go_enter Tryz.func8,Tryz.ntmps8
 go_wp2_with (refine Qah _ (Qav w) ?_)
 show Calls E 15 #[Z (K ⟨g,o,U⟩) n cp] (dW w) _
 with_reducible refine HK.out.mono ?_
 rintro e w1 ⟨a9,c9,rfl,HB⟩
 have HH:=Qaa (Qen a9 0 c9 HB.out zg c18)
 go_wp2_with fail
 generalize (w1.alloc (Y #[J V 0,J V 0,Z a9 0 c9] 38))=W at *
 refine Qb9 _ W g o n cp 1 (opi rfl) (opi rfl) (opi rfl) (opi rfl) (opi rfl) (opi rfl) (opi rfl) (opi rfl) (opi rfl) (opi rfl) rfl (by kernel_rfl)
  (by kernel_rfl) (by kernel_rfl) (by kernel_rfl) (by kernel_rfl) (by kernel_rfl) (by kernel_rfl) (by kernel_rfl) (by kernel_rfl) (by kernel_rfl) (by kernel_rfl) (by kernel_rfl)
  rfl rfl (by have:=H29.out.1; omega) (by have:=H29.out.2; omega) (by omega) HH.out.c18 ?_
 intro a W6 hfr h6 h7 bY hb6
 rw [if_neg hcp19] at h7
 obtain ⟨x0,x1,x2,x3,x4,x5,x6,rfl⟩:=hfr.lay9m (by exact (by decide:∀ s∈[39,40,41,42,43,44,45,6,7],s < 247)) h6 h7
 have HD:Hid (D6 w W6 w1.heap.size W.heap.size (Qbt 1 0 0 (Z U 0 0)) (Z a9 0 c9)):=HH.out.d6 bY hb6
 have y0:W6.cell? ⟨W.heap.size,0,U⟩=K (J V 1):=Qai HD.out.bY 0 _ rfl
 have zY:W.heap.size < W6.heap.size:=HD.out.hs
 have HZ:=Qaa HH.out.sz
 have HBW2:=Qaa HH.out.bel
 have hsz:=HH.out.le
 clear hfr h6 h7 bY hb6
 simp only [Act.put,D,T,L]
 have HMW:Hid (MW w W6):=⟨HD.out.bM,HD.out.bN,HD.out.bel⟩
 have q0:=HC.out W6 HD.out.bel 0 (by have:=HNC.out; omega)
 rw [Nat.add_zero,h4] at q0
 have HBL:=Qaa HD.out.bel
 generalize n - 19=N at *
 generalize cp - 19=CP at *
 obtain ⟨hN10,hNC,hN5⟩:=HNC.out
 have HN5:=Qaa hN5
 have hN0i:(0:Int) < (N:Int):=by omega
 have hN10i:(10:Int)≤(N:Int):=by omega
 have hN9i:(9:Int) < (N:Int):=by omega
 have hN5i:(N:Int)≤5000:=by omega
 clear hN5
 by_cases e10:CP=10
 rotate_left
 simp only [if_neg e10] at KR
 rotate_left
 have e10n:N=10:=by omega
 subst e10 e10n
 simp only [Nat.sub_self,↓reduceIte] at KR
 all_goals (
  go_wp2_with fail
  with_reducible refine (KR.out _ HBL.out).mono ?_
  rintro e w2 ⟨rfl,HB2⟩
  have HBA:Hid (Below W6.heap.size W6 (w2.alloc (Y #[I four,J V as4,I gr,I rs,J V tm,I fam,I fwd,I ll,J V lt] 26))):=HB2.out.alloc HB2.out.size _
  have HMA:=Qaa (HMW.out.later HBA.out)
  have HBV:Hid (Below w.heap.size w (w2.alloc (Y #[I four,J V as4,I gr,I rs,J V tm,I fam,I fwd,I ll,J V lt] 26))):=HBL.out.trans (HBA.out.mono HBL.out.size)
  have q9:(w2.alloc (Y #[I four,J V as4,I gr,I rs,J V tm,I fam,I fwd,I ll,J V lt] 26)).cell? ⟨g,o+19+9,U⟩=K (J .u8 ((bs.drop 19).getD 9 0:Int)):=HC.out _ HBV.out 9 (by omega)
  have q1:(w2.alloc (Y #[I four,J V as4,I gr,I rs,J V tm,I fam,I fwd,I ll,J V lt] 26)).cell? ⟨g,o+19+1,U⟩=K (J .u8 ((bs.drop 19).getD 1 0:Int)):=HC.out _ HBV.out 1 (by omega)
  have q2:(w2.alloc (Y #[I four,J V as4,I gr,I rs,J V tm,I fam,I fwd,I ll,J V lt] 26)).cell? ⟨g,o+19+2,U⟩=K (J .u8 ((bs.drop 19).getD 2 0:Int)):=HC.out _ HBV.out 2 (by omega)
  have hl9:=HLT.out 9
  have hl1:=HLT.out 1
  have hl2:=HLT.out 2
  generalize (bs.drop 19).getD 9 0=v9 at *
  generalize (bs.drop 19).getD 1 0=v1 at *
  generalize (bs.drop 19).getD 2 0=v2 at *
  have HZ9:g < (w2.alloc (Y #[I four,J V as4,I gr,I rs,J V tm,I fam,I fwd,I ll,J V lt] 26)).heap.size:=by have:=HBL.out.size; have:=HBA.out.size; omega
  have HCB:Hid ((w2.alloc (Y #[I four,J V as4,I gr,I rs,J V tm,I fam,I fwd,I ll,J V lt] 26)).heap[w2.heap.size]?=K (Y #[I four,J V as4,I gr,I rs,J V tm,I fam,I fwd,I ll,J V lt] 26 (0,0))):=heap_alloc_new w2 _
  have HZY:Hid (W.heap.size < w2.heap.size):=by have:=HB2.out.size; show W.heap.size < w2.heap.size; omega
  have hsai:256 * (v1:Int)+(v2:Int)=(sa:Int):=by omega
  have HSA:=Qaa hsai
  clear hsai hsa
  have hbd:∀ m,Below ((w2.alloc (Y #[I four,J V as4,I gr,I rs,J V tm,I fam,I fwd,I ll,J V lt] 26))).heap.size ((w2.alloc (Y #[I four,J V as4,I gr,I rs,J V tm,I fam,I fwd,I ll,J V lt] 26))) (((w2.alloc (Y #[I four,J V as4,I gr,I rs,J V tm,I fam,I fwd,I ll,J V lt] 26))).drewN m):=fun m=>Qaj (Below.refl _ _) m
  have HDD:=Qaa hbd
  clear hbd
  go_wp2_with fail
  go_quiet (fail)
  rw [HSA.out]
  have HBV2:Hid (Below w.heap.size w ((w2.alloc (Y #[I four,J V as4,I gr,I rs,J V tm,I fam,I fwd,I ll,J V lt] 26)).drewN nq)):=HBV.out.trans ((HDD.out nq).mono HBV.out.size)
  have HMV:=Qaa (HMA.out.later (HDD.out nq))
  have HCV:Hid (((w2.alloc (Y #[I four,J V as4,I gr,I rs,J V tm,I fam,I fwd,I ll,J V lt] 26)).drewN nq).heap[w2.heap.size]?=K (Y #[I four,J V as4,I gr,I rs,J V tm,I fam,I fwd,I ll,J V lt] 26 (0,0))):=HCB.out
  have HYV:Hid (((w2.alloc (Y #[I four,J V as4,I gr,I rs,J V tm,I fam,I fwd,I ll,J V lt] 26)).drewN nq).heap[W.heap.size]?=K (Y (Qbt 1 0 0 (Z U 0 0)) 40 (0,0))):=by
   show _=_
   rw [((HBA.out.trans ((HDD.out nq).mono HBA.out.size))).block _ zY]; exact HD.out.bY
  generalize (w2.alloc (Y #[I four,J V as4,I gr,I rs,J V tm,I fam,I fwd,I ll,J V lt] 26)).drewN nq=V1 at *
  have b0:V1.cell? ⟨w2.heap.size,0,U⟩=K (I four):=Qai HCV.out 0 _ rfl
  have b1:V1.cell? ⟨w2.heap.size,1,U⟩=K (J V as4):=Qai HCV.out 1 _ rfl
  have zV1:w2.heap.size < V1.heap.size:=(Array.getElem?_eq_some_iff.1 HCV.out).1
  clear q9 q1 q2 h9i
  clear HC HLT
  go_wp2_with fail
  go_wp2_with (refine Qaw _ (Qbp _) ?_)
  refine (KE.out 2 _ 2 HMV.out).mono ?_
  rintro e w3 ⟨a8,c8,W5,rfl,HST,HX,HF⟩
  obtain ⟨_,r0,r1,r2,f0,f1,f2⟩:=HX.out
  go_wp2_with (refine Qam _ _ (.pointer (K ⟨w.heap.size,0,U⟩)) (.agg zM) (by rfl) (by rfl) HST.out ?_)
  refine bodyPost_ret (v:=.tuple #[.agg zM,.agg #[J V 2,J V 2,Z a8 0 c8]]) (Qar Tryz.results8 _ _ w.heap.size (w.heap.size+1) zM #[J V 2,J V 2,Z a8 0 c8] rfl rfl HF.out.rM HF.out.rN Tryz.underlying40 rfl infoM Tryz.underlying38 rfl infoN) rfl ⟨?_,HF.out.bel⟩
  exact ⟨_,rfl,a8,c8,rfl,HF.out.own⟩
 )
theorem Qwv (g o n cp:Nat)(bs:List Nat)(w:World)(hn:bs.length=n)(hn29:29≤n)(hl:n≤5000)(hcap:n≤cp)(h:BRd w (K ⟨g,o,U⟩) bs)(hr:Qa6 bs=(n,0,0,[]))(hk1:bs.getD 18 0=1)(h4:(bs.drop 19).getD 0 0=4)(cc:Cp)(hrc:Qfc ((bs.drop 19).drop 10)=K cc)(h9:(bs.drop 19).getD 9 0=n - 19 - 10)(sa:Nat)(hsa:sa=256 * (bs.drop 19).getD 1 0+(bs.drop 19).getD 2 0)(h0:sa≠0)(hf:cc.four=true)(h1:(sa:Int)≠cc.as4)(h2:sa≠23456) :
  Calls E 8 #[Z (K ⟨g,o,U⟩) n cp] w fun e w'=>Qdd w w' e 2 2 []∧Below w.heap.size w w':=by
 have KH:=Qb5 g o n cp 10 bs w 1 hn (by omega) (by omega) hl hcap h hr (by rw [hk1]; rfl)
 have hF:=KH
 obtain ⟨c18,zg,HK,HC,HLT,HNC,H29,hcp19,hz0,hB,HBl,KE⟩:=hF
 unfold NtK at KE
 have KR:=Qrk KH (by omega) _ hrc
 simp only [Qpy,Qga,Option.getD_some,Option.isSome_some] at KR
 have h9i:(((bs.drop 19).getD 9 0:Int) != ((n - 19:Nat):Int) - 10)=false:=by rw [bne_eq_false_iff_eq]; omega
 have h0i:((sa:Int) == 0)=false:=by rw [beq_eq_false_iff_ne]; omega
 have h1i:((sa:Int) != cc.as4)=true:=bne_iff_ne.2 h1
 have h2i:((sa:Int) != 23456)=true:=bne_iff_ne.2 (by omega)
 clear hrc h9 KH h hcap hr hn hk1 hl hn29 hB HBl
 unfold Qdd Qby
 obtain ⟨four,as4,gr,rs,tm,fam,fwd,ll,lt⟩:=cc
 simp only at KR hf h1i
 subst hf
 go_enter Tryz.func8,Tryz.ntmps8
 go_wp2_with (refine Qah _ (Qav w) ?_)
 show Calls E 15 #[Z (K ⟨g,o,U⟩) n cp] (dW w) _
 with_reducible refine HK.out.mono ?_
 rintro e w1 ⟨a9,c9,rfl,HB⟩
 have HH:=Qaa (Qen a9 0 c9 HB.out zg c18)
 go_wp2_with fail
 generalize (w1.alloc (Y #[J V 0,J V 0,Z a9 0 c9] 38))=W at *
 refine Qb9 _ W g o n cp 1 (opi rfl) (opi rfl) (opi rfl) (opi rfl) (opi rfl) (opi rfl) (opi rfl) (opi rfl) (opi rfl) (opi rfl) rfl (by kernel_rfl)
  (by kernel_rfl) (by kernel_rfl) (by kernel_rfl) (by kernel_rfl) (by kernel_rfl) (by kernel_rfl) (by kernel_rfl) (by kernel_rfl) (by kernel_rfl) (by kernel_rfl) (by kernel_rfl)
  rfl rfl (by have:=H29.out.1; omega) (by have:=H29.out.2; omega) (by omega) HH.out.c18 ?_
 intro a W6 hfr h6 h7 bY hb6
 rw [if_neg hcp19] at h7
 obtain ⟨x0,x1,x2,x3,x4,x5,x6,rfl⟩:=hfr.lay9m (by exact (by decide:∀ s∈[39,40,41,42,43,44,45,6,7],s < 247)) h6 h7
 have HD:Hid (D6 w W6 w1.heap.size W.heap.size (Qbt 1 0 0 (Z U 0 0)) (Z a9 0 c9)):=HH.out.d6 bY hb6
 have y0:W6.cell? ⟨W.heap.size,0,U⟩=K (J V 1):=Qai HD.out.bY 0 _ rfl
 have zY:W.heap.size < W6.heap.size:=HD.out.hs
 have HZ:=Qaa HH.out.sz
 have HBW2:=Qaa HH.out.bel
 have hsz:=HH.out.le
 clear hfr h6 h7 bY hb6
 simp only [Act.put,D,T,L]
 have HMW:Hid (MW w W6):=⟨HD.out.bM,HD.out.bN,HD.out.bel⟩
 have q0:=HC.out W6 HD.out.bel 0 (by have:=HNC.out; omega)
 rw [Nat.add_zero,h4] at q0
 have HBL:=Qaa HD.out.bel
 generalize n - 19=N at *
 generalize cp - 19=CP at *
 obtain ⟨hN10,hNC,hN5⟩:=HNC.out
 have HN5:=Qaa hN5
 have hN0i:(0:Int) < (N:Int):=by omega
 have hN10i:(10:Int)≤(N:Int):=by omega
 have hN9i:(9:Int) < (N:Int):=by omega
 have hN5i:(N:Int)≤5000:=by omega
 clear hN5
 by_cases e10:CP=10
 rotate_left
 simp only [if_neg e10] at KR
 rotate_left
 have e10n:N=10:=by omega
 subst e10 e10n
 simp only [Nat.sub_self,↓reduceIte] at KR
 all_goals (
  go_wp2_with fail
  with_reducible refine (KR.out _ HBL.out).mono ?_
  rintro e w2 ⟨rfl,HB2⟩
  have HBA:Hid (Below W6.heap.size W6 (w2.alloc (Y #[I true,J V as4,I gr,I rs,J V tm,I fam,I fwd,I ll,J V lt] 26))):=HB2.out.alloc HB2.out.size _
  have HMA:=Qaa (HMW.out.later HBA.out)
  have HBV:Hid (Below w.heap.size w (w2.alloc (Y #[I true,J V as4,I gr,I rs,J V tm,I fam,I fwd,I ll,J V lt] 26))):=HBL.out.trans (HBA.out.mono HBL.out.size)
  have q9:(w2.alloc (Y #[I true,J V as4,I gr,I rs,J V tm,I fam,I fwd,I ll,J V lt] 26)).cell? ⟨g,o+19+9,U⟩=K (J .u8 ((bs.drop 19).getD 9 0:Int)):=HC.out _ HBV.out 9 (by omega)
  have q1:(w2.alloc (Y #[I true,J V as4,I gr,I rs,J V tm,I fam,I fwd,I ll,J V lt] 26)).cell? ⟨g,o+19+1,U⟩=K (J .u8 ((bs.drop 19).getD 1 0:Int)):=HC.out _ HBV.out 1 (by omega)
  have q2:(w2.alloc (Y #[I true,J V as4,I gr,I rs,J V tm,I fam,I fwd,I ll,J V lt] 26)).cell? ⟨g,o+19+2,U⟩=K (J .u8 ((bs.drop 19).getD 2 0:Int)):=HC.out _ HBV.out 2 (by omega)
  have hl9:=HLT.out 9
  have hl1:=HLT.out 1
  have hl2:=HLT.out 2
  generalize (bs.drop 19).getD 9 0=v9 at *
  generalize (bs.drop 19).getD 1 0=v1 at *
  generalize (bs.drop 19).getD 2 0=v2 at *
  have HZ9:g < (w2.alloc (Y #[I true,J V as4,I gr,I rs,J V tm,I fam,I fwd,I ll,J V lt] 26)).heap.size:=by have:=HBL.out.size; have:=HBA.out.size; omega
  have HCB:Hid ((w2.alloc (Y #[I true,J V as4,I gr,I rs,J V tm,I fam,I fwd,I ll,J V lt] 26)).heap[w2.heap.size]?=K (Y #[I true,J V as4,I gr,I rs,J V tm,I fam,I fwd,I ll,J V lt] 26 (0,0))):=heap_alloc_new w2 _
  have HZY:Hid (W.heap.size < w2.heap.size):=by have:=HB2.out.size; show W.heap.size < w2.heap.size; omega
  have hsai:256 * (v1:Int)+(v2:Int)=(sa:Int):=by omega
  have HSA:=Qaa hsai
  clear hsai hsa
  have hbd:∀ m,Below ((w2.alloc (Y #[I true,J V as4,I gr,I rs,J V tm,I fam,I fwd,I ll,J V lt] 26))).heap.size ((w2.alloc (Y #[I true,J V as4,I gr,I rs,J V tm,I fam,I fwd,I ll,J V lt] 26))) (((w2.alloc (Y #[I true,J V as4,I gr,I rs,J V tm,I fam,I fwd,I ll,J V lt] 26))).drewN m):=fun m=>Qaj (Below.refl _ _) m
  have HDD:=Qaa hbd
  clear hbd
  go_wp2_with fail
  go_quiet (fail)
  rw [HSA.out]
  have HBV2:Hid (Below w.heap.size w ((w2.alloc (Y #[I true,J V as4,I gr,I rs,J V tm,I fam,I fwd,I ll,J V lt] 26)).drewN nq)):=HBV.out.trans ((HDD.out nq).mono HBV.out.size)
  have HMV:=Qaa (HMA.out.later (HDD.out nq))
  have HCV:Hid (((w2.alloc (Y #[I true,J V as4,I gr,I rs,J V tm,I fam,I fwd,I ll,J V lt] 26)).drewN nq).heap[w2.heap.size]?=K (Y #[I true,J V as4,I gr,I rs,J V tm,I fam,I fwd,I ll,J V lt] 26 (0,0))):=HCB.out
  have HYV:Hid (((w2.alloc (Y #[I true,J V as4,I gr,I rs,J V tm,I fam,I fwd,I ll,J V lt] 26)).drewN nq).heap[W.heap.size]?=K (Y (Qbt 1 0 0 (Z U 0 0)) 40 (0,0))):=by
   show _=_
   rw [((HBA.out.trans ((HDD.out nq).mono HBA.out.size))).block _ zY]; exact HD.out.bY
  generalize (w2.alloc (Y #[I true,J V as4,I gr,I rs,J V tm,I fam,I fwd,I ll,J V lt] 26)).drewN nq=V1 at *
  have b0:V1.cell? ⟨w2.heap.size,0,U⟩=K (I true):=Qai HCV.out 0 _ rfl
  have b1:V1.cell? ⟨w2.heap.size,1,U⟩=K (J V as4):=Qai HCV.out 1 _ rfl
  have zV1:w2.heap.size < V1.heap.size:=(Array.getElem?_eq_some_iff.1 HCV.out).1
  clear q9 q1 q2 h9i
  clear HC HLT
  go_wp2_with fail
  go_wp2_with (refine Qaw _ (Qbp _) ?_)
  refine (KE.out 2 _ 2 HMV.out).mono ?_
  rintro e w3 ⟨a8,c8,W5,rfl,HST,HX,HF⟩
  obtain ⟨_,r0,r1,r2,f0,f1,f2⟩:=HX.out
  go_wp2_with (refine Qam _ _ (.pointer (K ⟨w.heap.size,0,U⟩)) (.agg zM) (by rfl) (by rfl) HST.out ?_)
  refine bodyPost_ret (v:=.tuple #[.agg zM,.agg #[J V 2,J V 2,Z a8 0 c8]]) (Qar Tryz.results8 _ _ w.heap.size (w.heap.size+1) zM #[J V 2,J V 2,Z a8 0 c8] rfl rfl HF.out.rM HF.out.rN Tryz.underlying40 rfl infoM Tryz.underlying38 rfl infoN) rfl ⟨?_,HF.out.bel⟩
  exact ⟨_,rfl,a8,c8,rfl,HF.out.own⟩
 )
end
