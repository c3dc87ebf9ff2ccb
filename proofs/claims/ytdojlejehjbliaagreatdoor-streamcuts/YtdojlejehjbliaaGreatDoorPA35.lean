import Derived.Test.YtdojlejehjbliaaGreatDoorPA34
namespace Go.Proofs.YtdojlejehjbliaaGreatDoor
set_option maxHeartbeats 4000000
open _root_.Go.Proofs.Tryz renaming prog → I
open _root_.Option renaming some → J,none → Z
open _root_.Go.Value renaming slice → V,int → U,pointer → R
open _root_.Go.Ending renaming returned → Y
open _root_.Go.IntKind renaming i64 → X
open _root_.Go.Obj renaming cells → E
open _root_.Array renaming getElem?_eq_some_iff → D
open Go.RowKit
set_option maxRecDepth 100000
theorem MC.own {w:World}{B:Nat}{C:Array Value}{p:PM} (h:Qci w B C p):MC C:=by
 obtain ⟨v,A,u,a,cap,rfl,h1,h2,h3,h4⟩:=h
 obtain ⟨va,vc,rfl⟩:=Qcd h1
 obtain ⟨ua,uc,rfl⟩:=Qcd h2
 obtain ⟨p1,k1,p5,k5,p6,k6,rfl,_⟩:=h3
 exact ⟨by simp [Qce,Qct],by simp [Qce,Qct,Value.oneCell']⟩
theorem Qci.later {w w':World}{B:Nat}{C:Array Value}{p:PM} (h:Qci w B C p) (hb:Below w.heap.size w w'):Qci w' B C p:=by
 obtain ⟨v,A,u,a,cap,e,h1,h2,⟨p1,k1,p5,k5,p6,k6,e2,x,y,z⟩,h4⟩:=h
 exact ⟨v,A,u,a,cap,e,Qaq h1 hb,Qaq h2 hb,⟨p1,k1,p5,k5,p6,k6,e2,x.later hb,Qaq y hb,z.later hb⟩,Qaq h4 hb⟩
theorem Qjx {w':World}{B:Nat}{d:List Nat}{a:Option Addr}{c:Nat} (hd:∀ x∈d,x < 256) (hl:d.length≤5001) (h:d≠[]→w'.ownsRow B 5 1 (V a d.length c) d.length (Qal d)):BRd w' a d:=by
 by_cases e:d=[]
 ·subst e; exact Qbf _ _
 ·exact Qfq (h e) rfl (by omega) hd
theorem Qui {bs:List Nat}{z:Nat} (h:Qa6 bs=(z,0,0,[])):z≤4096:=by
 unfold Qa6 at h
 split at h
 ·injection h with h1; omega
 ·split at h
  ·injection h with h1 h2; injection h2 with h2; omega
  ·split at h
   ·injection h with h1 h2; injection h2 with h2; omega
   ·split at h
    ·injection h with h1 h2; injection h2 with h2; omega
    ·split at h
     ·injection h with h1 h2; injection h2 with h2; omega
     ·injection h with h1; omega
theorem Qci.keep {F:Nat→Prop}{w w':World}{B:Nat}{C:Array Value}{p:PM} (h:Qci w B C p) (hk:Qae F w w') (hF:∀ x,B≤x→¬ F x):Qci w' B C p:=by
 obtain ⟨v,A,u,a,cap,e,h1,h2,⟨p1,k1,p5,k5,p6,k6,e2,x,y,z⟩,h4⟩:=h
 have hF2:∀ k,F k→k < B:=fun k hk=>by
  rcases Nat.lt_or_ge k B with h | h
  ·exact h
  ·exact absurd hk (hF k h)
 exact ⟨v,A,u,a,cap,e,Qas h1 hk hF,Qas h2 hk hF,⟨p1,k1,p5,k5,p6,k6,e2,x.keeps hk hF2,Qas y hk hF,z.keeps hk hF⟩,Qas h4 hk hF⟩
def Qyo (r:PM×Nat×Nat×List Nat)(C:Array Value)(k q:Int)(v:Value)(nd:List Nat)(B:Nat)(W:World):Prop :=
 nd=r.2.2.2∧k=(r.2.1:Int)∧q=(r.2.2.1:Int)∧Qci W B C r.1∧∃ a c,v=V a r.2.2.2.length c∧(r.2.2.2≠[]→W.ownsRow B 5 1 (V a r.2.2.2.length c) r.2.2.2.length (Qal r.2.2.2))
theorem Qyo.keep (r:PM×Nat×Nat×List Nat):∀ C k q v nd B W1 W2 F,Qae F W1 W2→(∀ x,B≤x→¬ F x)→Qyo r C k q v nd B W1→Qyo r C k q v nd B W2:=by
 rintro C k q v nd B W1 W2 F hk hF ⟨h0,h1,h2,h3,a,c,e,h4⟩
 exact ⟨h0,h1,h2,h3.keep hk hF,a,c,e,fun hn=>Qas (h4 hn) hk hF⟩
theorem Qjz (g o n c z:Nat)(b:Nat)(h:(Qjb g o n c z).ownBlock=J b):b=g:=by
 unfold Qjb at h
 split at h
 ·simp [Value.ownBlock] at h
 ·simp [Value.ownBlock] at h
  exact h.symm
theorem Qxz (S B z:Nat)(v:Value)(xs:List Nat)(s:Int)(d:Value)(w:World)(h:Qc6 w S v 0 s d)(ho:Qck w B v xs)(hvS:v.ownBlock≠J S)(hl:xs.length≤100000)(hx:∀ x∈xs,x < 256)(hS:Qdb w)(hA:Qfa w)(hr:Qa6 xs=(z,0,0,[]))(hz0:z≠0)(hzn:z≤xs.length) :
  Calls I 14 #[R (J ⟨S,0,Z⟩)] w fun e w'=>∃ C v9,e=Y (.tuple #[.agg C,.agg #[U X ((Qcx (xs.take z)).2.1:Int),U X ((Qcx (xs.take z)).2.2.1:Int),v9],.bool true])∧(∃ B9,w.heap.size≤B9∧Qyo (Qcx (xs.take z)) C ((Qcx (xs.take z)).2.1:Int) ((Qcx (xs.take z)).2.2.1:Int) v9 (Qcx (xs.take z)).2.2.2 B9 w') ∧
   (∃ v' a' c',Qc6 w' S v' ((Qcx (xs.take z)).2.1:Int) ((Qcx (xs.take z)).2.2.1:Int) (V a' (Qcx (xs.take z)).2.2.2.length c')∧BRd w' a' (Qcx (xs.take z)).2.2.2∧Qck w' B v' (xs.drop z)∧v'.ownBlock≠J S)∧Qae (fun x=>x=S) w w':=by
 have hz:=Qui hr
 have ho2:=ho
 rcases ho2 with ⟨_,rfl⟩ | ⟨g,o,cap,cur,rfl,hg,hc,hn,hm,hs,ht⟩
 ·simp at hzn
  exact absurd hzn hz0
 ·have hrd:=ho.rd hx
  have hlt:(xs.take z).length=z:=by rw [List.length_take]; omega
  have hrz:BRd w (J ⟨g,o,Z⟩) (xs.take z):=by
   refine ⟨⟨by rw [hlt]; omega,fun _=>⟨g,o,rfl,fun i hi=>?_⟩⟩,fun x hx2=>hx x (List.mem_of_mem_take hx2)⟩
   rw [hlt] at hi
   obtain ⟨b,off,e,h5⟩:=hrd.1.2 (by omega)
   cases e
   rw [h5 i (by omega)]
   simp only [List.getD_eq_getElem?_getD,List.getElem?_take_of_lt hi]
  have hok:=Qqg (bs:=xs.take z) (fun x hx2=>hx x (List.mem_of_mem_take hx2)) (by omega)
  refine (Qk1 (Qyo (Qcx (xs.take z))) (Qyo.keep _) S g o xs.length cap z xs s d w h rfl hl hn hrd hS hr hz0 hzn (fun W hW=>?_)).mono ?_
  ·refine (Qoz (J ⟨g,o,Z⟩) cap z (xs.take z) W hlt (by omega) (by omega) (hrz.below hW) (hS.below hW) (hA.below hW)).mono ?_
   rintro e W' ⟨⟨C,a,c,rfl,hm1,hm2⟩,hb⟩
   exact ⟨C,_,_,a,_,c,(Qcx (xs.take z)).2.2.2,rfl,MC.own hm1,⟨rfl,by have:=hok.2.2; omega,hok.2.1,hm2⟩,⟨rfl,rfl,rfl,hm1,a,c,rfl,hm2⟩,hb⟩
  ·rintro e w' ⟨C,k,q,v9,rfl,⟨nd,⟨B9,hB9,hR⟩,a9,⟨c9,hs9⟩,hb9⟩,hk⟩
   obtain ⟨rfl,rfl,rfl,hm1,a,c,rfl,hm2⟩:=hR
   have hgS:g≠S:=fun e=>hvS (by rw [e]; rfl)
   refine ⟨C,_,rfl,⟨B9,hB9,rfl,rfl,rfl,hm1,a,c,rfl,hm2⟩,⟨_,_,_,hs9,hb9,(ho.rest hzn).keeps hk (fun b hb e=>?_),fun e=>?_⟩,hk⟩
   ·exact hgS ((Qjz g o _ _ z b hb).symm.trans e)
   ·exact hgS (Qjz g o _ _ z S e).symm
section
attribute [local go_sem ↓] Qbe Qba keptM_alloc Qbb
theorem Qr4 (S nn c:Nat)(v:Value)(a:Option Addr)(nd:List Nat)(k s:Int)(w:World)(h:Qc6 w S v k s (V a nn c))(hk:k≠0)(hn:nd.length=nn)(hl:nn≤6000)(hb:BRd w a nd) :
  Calls I 14 #[R (J ⟨S,0,Z⟩)] w fun e w'=>∃ a9 c9,e=Y (.tuple #[.agg zM,.agg #[U X k,U X s,V a9 nn c9],.bool true])∧w'.ownsRow w.heap.size 5 1 (V a9 nn c9) nn (Qal nd)∧Below w.heap.size w w':=by
 have KC:=Qqm k s a nn c nd (dW w) hn hl (hb.below (Qdy w))
 have HK:=Qaa KC
 have c1:=h.c1
 have c2:=h.c2
 have c3:=h.c3
 have zS:S < w.heap.size:=World.block_lt_of_cell? w _ h.c0
 have hkz:(k != 0)=true:=by simpa using hk
 clear KC h hb hn hl
 go_enter Tryz.func14,Tryz.ntmps14
 go_wp2_with (first | (refine Qah _ (Qav w) ?_) | (refine Qaw _ (Qbp _) ?_))
 show Calls I 31 #[.agg #[U X k,U X s,V a nn c]] (dW w) _
 with_reducible refine HK.out.mono ?_
 rintro e w1 ⟨a9,c9,rfl,ho,hb1⟩
 have hsz:w.heap.size+1+1≤w1.heap.size:=by have:=hb1.size; rw [Qdm] at this; exact this
 have hM:w1.heap[w.heap.size]?=J (E zM 40 (0,0)):=by rw [hb1.block _ (by rw [Qdm]; omega)]; exact Qyh w
 have hN:w1.heap[w.heap.size+1]?=J (E #[U X 0,U X 0,V Z 0 0] 38 (0,0)):=by rw [hb1.block _ (by rw [Qdm]; omega)]; exact Qzc w
 obtain ⟨W2,hst,hN2,hRM,hRN,hK⟩:=Qjm hM rfl hN (by omega) MC.zero (U X k) (U X s) (V a9 nn c9)
 obtain ⟨⟨n0,n1,n2⟩,f0,f1,f2⟩:=Qq0 hN2
 have HST:=Qaa hst
 have HRM:=Qaa hRM
 have HRN:=Qaa hRN
 have HKK:=Qaa hK
 have HO:=Qaa ho
 have HB:Hid (Below w.heap.size w w1):=(Qdy w).trans (hb1.mono (by rw [Qdm]; omega))
 have hz2:w.heap.size+1 < W2.heap.size:=(D.1 hN2).1
 clear hst hRM hRN hK hN2 hM hN ho hb1
 go_wp2_with (refine Qam _ _ (R (J ⟨w.heap.size,0,Z⟩)) (.agg zM) (by rfl) (by rfl) HST.out ?_)
 refine bodyPost_ret (v:=.tuple #[.agg zM,.agg #[U X k,U X s,V a9 nn c9],.bool true]) (Qff Tryz.results14 _ _ w.heap.size (w.heap.size+1) zM _ _ rfl rfl rfl HRM.out HRN.out Tryz.underlying40 rfl infoM Tryz.underlying38 rfl infoN) rfl ⟨a9,c9,rfl,?_,?_⟩
 ·exact Qa0 (Qas HO.out HKK.out (fun x hx e=>by rw [Qdm] at hx; omega)) (by rw [Qdm]; omega)
 ·exact HB.out.trans (HKK.out.below _ (by omega) (fun x e=>by omega))
end
structure Qp3 (w wq:World) (S:Nat) (bs:List Nat) (p q:Nat) (ar:Option Addr) (cr:Nat):Prop where
 bel:Below w.heap.size w wq
 st:∃ v s d,Qc6 wq S v 0 s d∧Qck wq w.heap.size v ((bs.drop q).take (p - q))∧v.ownBlock≠J S
 rd:BRd w ar (bs.drop q)
 cap:bs.length - q≤cr
theorem Qp3.later {w wq w':World}{S:Nat}{bs:List Nat}{p q:Nat}{ar:Option Addr}{cr:Nat} (h:Qp3 w wq S bs p q ar cr) (hb:Below wq.heap.size wq w'):Qp3 w w' S bs p q ar cr:=by
 obtain ⟨v,s,d,h1,h2,h3⟩:=h.st
 exact ⟨h.bel.trans (hb.mono h.bel.size),⟨v,s,d,h1.below hb,h2.later hb,h3⟩,h.rd,h.cap⟩
def Qv3 (xs:List Nat):Prop:=∃ z,Qa6 xs=(z,0,0,[])∧(z=0∨xs.length < z)
theorem Quf (xs:List Nat):(∃ k s d,Qa6 xs=(0,k,s,d)∧k≠0)∨Qv3 xs∨∃ z,Qa6 xs=(z,0,0,[])∧z≠0∧z≤xs.length:=by
 have key:(∃ k s d,Qa6 xs=(0,k,s,d)∧k≠0)∨∃ z,Qa6 xs=(z,0,0,[]):=by
  unfold Qa6
  split
  ·exact .inr ⟨0,rfl⟩
  ·split
   ·exact .inl ⟨1,1,[],rfl,by omega⟩
   ·split
    ·exact .inl ⟨1,2,_,rfl,by omega⟩
    ·split
     ·exact .inl ⟨1,3,_,rfl,by omega⟩
     ·split
      ·exact .inl ⟨1,2,_,rfl,by omega⟩
      ·exact .inr ⟨_,rfl⟩
 rcases key with h | ⟨z,h⟩
 ·exact .inl h
 ·by_cases h0:z=0∨xs.length < z
  ·exact .inr (.inl ⟨z,h,h0⟩)
  ·exact .inr (.inr ⟨z,h,by omega,by omega⟩)
theorem Qst (bs:List Nat){p q m:Nat}(h:q≤p):(bs.drop q).take (p - q)++(bs.drop p).take m=(bs.drop q).take (p+m - q):=by
 rw [show p+m - q=(p - q)+m by omega,List.take_add,List.drop_drop,show q+(p - q)=p by omega]
theorem Qc9 {bs:List Nat}{p q:Nat} (h:p≤bs.length):((bs.drop q).take (p - q)).length=p - q:=by
 rw [List.length_take,List.length_drop]
 omega
theorem Qq2 (bs:List Nat)(p q z:Nat):((bs.drop q).take (p - q)).drop z=(bs.drop (q+z)).take (p - (q+z)):=by
 rw [List.drop_take,List.drop_drop,show p - q - z=p - (q+z) by omega]
theorem Qjd {w:World}{bs:List Nat}{p q:Nat}{ar:Option Addr} (h:BRd w ar (bs.drop q)):∀ x∈(bs.drop q).take (p - q),x < 256:=fun x hx=>h.2 x (List.mem_of_mem_take hx)
theorem Qjr (w:World)(a:Option Addr):BRd w a []:=⟨⟨Nat.zero_le _,fun h=>absurd h (by simp)⟩,fun x hx=>by cases hx⟩
theorem Qti {w:World}{a:Option Addr}{bs:List Nat}{p m:Nat} (h:BRd w a bs):(∃ g o,a=J ⟨g,o,Z⟩∧(p≤bs.length→BRd w (J ⟨g,o+p,Z⟩) ((bs.drop p).take m)))∨bs=[]:=by
 rcases Nat.eq_zero_or_pos bs.length with h0 | h0
 ·exact .inr (List.eq_nil_of_length_eq_zero h0)
 ·obtain ⟨g,o,rfl,_⟩:=h.1.2 h0
  exact .inl ⟨g,o,rfl,fun hp=>Qe8 (Qds h hp) m⟩
theorem Qj1 {w wq:World}{S:Nat}{bs:List Nat}{p q m c:Nat}{ar a:Option Addr}{cr:Nat} (h:Qp3 w wq S bs p q ar cr) (hS:w.heap.size≤S) (hq:q≤p) (hp:p+m≤bs.length) (hl:bs.length≤8000) (hz:BRd w a ((bs.drop p).take m)) :
  Calls I 13 #[R (J ⟨S,0,Z⟩),V a m c] wq fun e w'=>e=Y (.tuple #[])∧Qp3 w w' S bs (p+m) q ar cr:=by
 obtain ⟨v,s,d,h1,h2,h3⟩:=h.st
 have e:((bs.drop p).take m).length=m:=by rw [List.length_take,List.length_drop]; omega
 have K:=Qxk wq S w.heap.size v ((bs.drop q).take (p - q)) ((bs.drop p).take m) a c 0 s d h1 h2 h.bel.size h3 (by rw [e,Qc9 (by omega)]; omega) (hz.below h.bel)
 rw [e] at K
 refine K.mono ?_
 rintro e w' ⟨rfl,v',g1,g2,g3,g4⟩
 rw [Qst bs hq] at g2
 exact ⟨rfl,h.bel.trans (g4.below _ h.bel.size (fun b hb=>by
  rcases hb with rfl | hb
  ·exact hS
  ·exact (h2.lt b hb).1)),⟨v',s,d,g1,g2,g3⟩,h.rd,h.cap⟩
theorem Qs9 {w wq:World}{S:Nat}{bs:List Nat}{p q:Nat}{ar:Option Addr}{cr:Nat} (h:Qp3 w wq S bs p q ar cr) (hp:p≤bs.length) :
  Calls I 16 #[R (J ⟨S,0,Z⟩)] wq fun e w'=>e=Y (U X ((p - q:Nat):Int))∧w'=wq:=by
 obtain ⟨v,s,d,h1,h2,h3⟩:=h.st
 obtain ⟨a,c,rfl,_⟩:=h2.slice
 have:=Qp5 wq S a _ c 0 s d h1
 rw [Qc9 hp] at this
 exact this
theorem Quy {w wq:World}{S:Nat}{bs:List Nat}{p q:Nat}{ar:Option Addr}{cr:Nat} (h:Qp3 w wq S bs p q ar cr) (hp:p≤bs.length) (hl:bs.length≤8000) (hS:Qdb w) (hw:Qv3 ((bs.drop q).take (p - q))) :
  Calls I 14 #[R (J ⟨S,0,Z⟩)] wq fun e w'=>e=Y (.tuple #[.agg zM,.agg #[U X 0,U X 0,V Z 0 0],.bool false])∧Below wq.heap.size wq w':=by
 obtain ⟨v,s,d,h1,h2,h3⟩:=h.st
 obtain ⟨z,hz,hz2⟩:=hw
 obtain ⟨a,c,rfl,hc⟩:=h2.slice
 have hn:=Qc9 (q:=q) hp
 exact Qnc S _ c z a _ s d wq h1 rfl (by rw [hn]; omega) hc (h2.rd (Qjd h.rd)) (hS.below h.bel) hz hz2
theorem Qqe {w wq:World}{S:Nat}{bs:List Nat}{p q:Nat}{ar:Option Addr}{cr:Nat} (h:Qp3 w wq S bs p q ar cr) (hp:p≤bs.length) (hl:bs.length≤8000) (hS:Qdb w) {k t:Nat}{nd:List Nat} (hr:Qa6 ((bs.drop q).take (p - q))=(0,k,t,nd)) (hk:k≠0) :
  Calls I 14 #[R (J ⟨S,0,Z⟩)] wq fun e w'=>(∃ u,e=Y (.tuple #[.agg zM,u,.bool true])∧Qby wq.heap.size w' u k t nd)∧Below wq.heap.size wq w':=by
 obtain ⟨v,s,d,h1,h2,h3⟩:=h.st
 obtain ⟨a,c,rfl,hc⟩:=h2.slice
 have hn:=Qc9 (q:=q) hp
 exact Qxb S _ c a _ s d wq h1 rfl (by rw [hn]; omega) hc (h2.rd (Qjd h.rd)) (hS.below h.bel) k t nd hr hk
theorem Qw3 {w wq:World}{S:Nat}{bs:List Nat}{p q z:Nat}{ar:Option Addr}{cr:Nat} (h:Qp3 w wq S bs p q ar cr) (hS0:w.heap.size≤S) (hp:p≤bs.length) (hl:bs.length≤8000) (hS:Qdb w) (hA:Qfa w) (hr:Qa6 ((bs.drop q).take (p - q))=(z,0,0,[])) (hz0:z≠0) (hz:z≤p - q) :
  Calls I 14 #[R (J ⟨S,0,Z⟩)] wq fun e w'=>∃ C v9,e=Y (.tuple #[.agg C,.agg #[U X ((Qcx ((bs.drop q).take z)).2.1:Int),U X ((Qcx ((bs.drop q).take z)).2.2.1:Int),v9],.bool true])∧Hid (∃ B9,Qyo (Qcx ((bs.drop q).take z)) C ((Qcx ((bs.drop q).take z)).2.1:Int) ((Qcx ((bs.drop q).take z)).2.2.1:Int) v9 (Qcx ((bs.drop q).take z)).2.2.2 B9 w') ∧
   Hid (∃ v' a' c',Qc6 w' S v' ((Qcx ((bs.drop q).take z)).2.1:Int) ((Qcx ((bs.drop q).take z)).2.2.1:Int) (V a' (Qcx ((bs.drop q).take z)).2.2.2.length c')∧BRd w' a' (Qcx ((bs.drop q).take z)).2.2.2∧Qck w' w.heap.size v' ((bs.drop (q+z)).take (p - (q+z)))∧v'.ownBlock≠J S)∧Hid (Below w.heap.size w w'):=by
 obtain ⟨v,s,d,h1,h2,h3⟩:=h.st
 have hn:=Qc9 (q:=q) hp
 have ht:((bs.drop q).take (p - q)).take z=(bs.drop q).take z:=by rw [List.take_take,Nat.min_eq_left hz]
 have K:=Qxz S w.heap.size z v _ s d wq h1 h2 h3 (by rw [hn]; omega) (Qjd h.rd) (hS.below h.bel) (hA.below h.bel) hr hz0 (by rw [hn]; exact hz)
 rw [ht] at K
 refine K.mono ?_
 rintro e w' ⟨C,v9,rfl,⟨B9,_,g1⟩,⟨v',a',c',g2,g3,g4,g5⟩,g6⟩
 rw [Qq2] at g4
 exact ⟨C,v9,rfl,⟨B9,g1⟩,⟨v',a',c',g2,g3,g4,g5⟩,h.bel.trans (g6.below _ h.bel.size (fun b hb=>by subst hb; exact hS0))⟩
theorem Qkc (p q:Int)(a1 a2:Option Addr)(c1 c2:Nat)(x:List Nat)(w:World)(hl:x.length≤1000000)(h1:BRd w a1 x)(h2:BRd w a2 x) :
  Calls I 9 #[.agg #[U X p,U X q,V a1 x.length c1],.agg #[U X p,U X q,V a2 x.length c2]] w fun e w'=>e=Y (.bool true)∧Below w.heap.size w w':=by
 refine (Qit p q p q a1 a2 c1 c2 x x w hl h1 h2).mono ?_
 rintro e w' ⟨rfl,hb⟩
 exact ⟨by simp,hb⟩
theorem Qyk (n:Nat)(w:World)(hn:n < 65536):Calls I 34 #[U X (n:Int)] w fun e w'=>e=Y (V (J ⟨w.heap.size,0,Z⟩) 2 2)∧w'=w.alloc (E #[U .u8 ((n:Int) / 256),U .u8 ((n:Int) % 256)] 5):=by
 have e1:IntKind.u8.wrap (Int.tdiv (n:Int) 256)=(n:Int) / 256:=by rw [Int.tdiv_eq_ediv_of_nonneg (by omega),IntKind.wrap_u8]; omega
 have e2:IntKind.u8.wrap (Int.tmod (n:Int) 256)=(n:Int) % 256:=by rw [Int.tmod_eq_emod_of_nonneg (by omega),IntKind.wrap_u8]; omega
 go_enter Tryz.func34,Tryz.ntmps34
 go_wp2
 go_ret
 first
 | exact ⟨rfl,rfl⟩
 | exact ⟨rfl,by simp [e1,e2]⟩
theorem Qpa (w:World):Calls I 33 #[.agg (Qbt 4 0 0 (V Z 0 0))] w fun e w'=>e=Y (.tuple #[V Z 0 0,.bool true])∧Below w.heap.size w w':=by
 unfold Qbt
 go_enter Tryz.func33,Tryz.ntmps33
 go_wp2_with fail
 go_quiet (fail)
 go_wp2
 go_ret2
 exact ⟨rfl,Qaj ((Below.refl _ _).alloc (Nat.le_refl _) _) _⟩
section
variable {a:Act}{w w':World}{dst:Option Tmp}{ty:TypeId}{pos:String}{after:Array Edge}{K:Act→World→Prop}{Q:Exit→Act→World→Prop}
theorem Qzr (ρ:Operand→Value)(x:Operand)(u:Value)(hf:ρ (.func 34)=.func (.func 34) #[] #[])(hx:ρ x=u) :
  (execOp ρ { dst:=dst,op:=.call { callee:=.value (.func 34),args:=#[x],argTypes:=#[3] },type:=ty,pos:=pos,after:=after,guard:=Z }).run I w=.ok (.enter 34 #[u]) w:=by
 unfold execOp
 simp [resolve,invoke,hf,hx,go_sem]
theorem Qp8 (x:Operand)(u:Value)(hx:a.eval x=u)(h:Calls I 34 #[u] w fun e w'=>∃ r,e=Y r∧K (a.put dst r) w') :
  Oper.wp I { dst:=dst,op:=.call { callee:=.value (.func 34),args:=#[x],argTypes:=#[3] },type:=ty,pos:=pos,after:=after,guard:=Z } a w K Q:=by
 unfold Oper.wp
 rw [Qzr a.eval x u rfl hx]
 refine Calls.mono h ?_
 rintro _ w' ⟨r,rfl,hk⟩
 exact hk
theorem Qjg {t:TypeId}(x y:Operand)(p q v:Value)(hx:a.eval x=p)(hy:a.eval y=q)(hr:(Builtin.append_ #[t,t] ty #[p,q]).run I w=.ok v w')(h:K (a.put dst v) w') :
  Oper.wp I { dst:=dst,op:=.call { callee:=.builtin .append,args:=#[x,y],argTypes:=#[t,t] },type:=ty,pos:=pos,after:=after,guard:=Z } a w K Q:=by
 unfold Oper.wp execOp
 simp only [resolve,invoke,builtin,Sem.run_bind,Sem.run_pure,Result.andThen_ok,List.map_toArray,List.map_cons,List.map_nil,hx,hy,hr]
 exact h
theorem Qmj (x:Nat)(k:Int)(hx:a.tmps[x]?=J (U .u8 k))(h:K (a.put dst (V (J ⟨w.heap.size,0,Z⟩) 1 1)) (w.alloc (E #[U .u8 k] 5))):Oper.wp I { dst:=dst,op:=.buildSlice 22 1 #[(0,.tmp x)],type:=ty,pos:=pos,after:=after,guard:=Z } a w K Q:=by
 have hr:(execOp a.eval { dst:=dst,op:=.buildSlice 22 1 #[(0,.tmp x)],type:=ty,pos:=pos,after:=after,guard:=Z }).run I w=.ok (.value (V (J ⟨w.heap.size,0,Z⟩) 1 1)) (w.alloc (E #[U .u8 k] 5)):=by
  unfold execOp
  simp [hx,go_sem]
 unfold Oper.wp
 rw [hr]
 exact h
end
theorem Qer {w w':World}{B e size n:Nat}{v:Value}{xs:List Value} (ho:w.ownsRow B e size v n xs) (hB:B≤w.heap.size) (hg:w.grownBy w' v.ownBlock):Below B w w' :=
 ((Qae.refl (fun b=>v.ownBlock=J b) w).grown hg (fun _ e=>.inl e)).below B hB (fun b e=>(Qb1 ho b e).1)
theorem Qmo {w w':World}{v:Value}{h:Nat}{bs:List Nat} (hb:BRd w (J ⟨h,0,Z⟩) bs) (hg:w.grownBy w' v.ownBlock) (hn:v.ownBlock≠J h) (hp:0 < bs.length):BRd w' (J ⟨h,0,Z⟩) bs:=by
 obtain ⟨b,o,e9,hc⟩:=hb.1.2 hp
 cases e9
 have hz:h < w.heap.size:=World.block_lt_of_cell? w _ (hc 0 hp)
 refine ⟨⟨hb.1.1,fun _=>⟨h,0,rfl,fun i hi=>?_⟩⟩,hb.2⟩
 rw [World.cell?_of_block (w:=w) (hg.block h hz (Ne.symm hn))]
 exact hc i hi
/-- 'append(append(out, two(n)...), byte(k))': three orders. -/
theorem Qog {ops:Array Oper}{Q:Exit→Act→World→Prop}{L0 Lf:Array Bool}{f:Nat} (b:Act) (w0 W0:World) (B n k:Nat) (v5:Value) (ys:List Nat) (hn:n < 65536) (hk:k < 256) (hl:ys.length≤1000)
  (ho:W0.ownsRow B 5 1 v5 ys.length (Qal ys)) (hB:B≤W0.heap.size) (hW0:Below B w0 W0)
  (o4:opk ops 4 (J 30) (.call { callee:=.value (.func 34),args:=#[.tmp 29],argTypes:=#[3] }))
  (o5:∃ po af,ops[5]?=J { dst:=J 31,op:=.call { callee:=.builtin .append,args:=#[.tmp 26,.tmp 30],argTypes:=#[22,22] },type:=22,pos:=po,after:=af,guard:=Z })
  (o9:opk ops 9 (J 35) (.buildSlice 22 1 #[(0,.tmp 34)]))
  (r0:Region.ready .any ops L0=[4,9]) (r9:Region.ready .any ops (L0.setIfInBounds 9 true)=[4]) (r94:Region.ready .any ops ((L0.setIfInBounds 9 true).setIfInBounds 4 true)=[5])
  (r4:Region.ready .any ops (L0.setIfInBounds 4 true)=[5,9]) (r49:Region.ready .any ops ((L0.setIfInBounds 4 true).setIfInBounds 9 true)=[5]) (r45:Region.ready .any ops ((L0.setIfInBounds 4 true).setIfInBounds 5 true)=[9])
  (eA:((L0.setIfInBounds 9 true).setIfInBounds 4 true).setIfInBounds 5 true=Lf) (eB:((L0.setIfInBounds 4 true).setIfInBounds 9 true).setIfInBounds 5 true=Lf) (eC:((L0.setIfInBounds 4 true).setIfInBounds 5 true).setIfInBounds 9 true=Lf)
  (hsz:b.tmps.size=40) (s26:b.tmps[26]?=J v5) (s29:b.tmps[29]?=J (U X (n:Int))) (s34:b.tmps[34]?=J (U .u8 (k:Int)))
  (fin:∀ W x v h,Below B w0 W→W.ownsRow B 5 1 v (ys++[n / 256,n % 256]).length (Qal (ys++[n / 256,n % 256]))→BRd W (J ⟨h,0,Z⟩) [k]→wpAnyH I .any ops Q (fun W=>Below B w0 W) f Lf (((b.put (J 30) x).put (J 31) v).put (J 35) (V (J ⟨h,0,Z⟩) 1 1)) W) :
  wpAnyH I .any ops Q (fun W=>Below B w0 W) (f+3) L0 b W0:=by
 obtain ⟨t4,p4,f4,h4⟩:=o4
 obtain ⟨p5,f5,h5⟩:=o5
 obtain ⟨t9,p9,f9,h9⟩:=o9
 have nb:∀ x,W0.heap.size≤x→v5.ownBlock≠J x:=fun x hx e=>by have:=(Qb1 ho x e).2; omega
 obtain ⟨T,hT⟩:∃ T:Obj,T=E #[U .u8 ((n:Int) / 256),U .u8 ((n:Int) % 256)] 5:=⟨_,rfl⟩
 obtain ⟨O,hO⟩:∃ O:Obj,O=E #[U .u8 (k:Int)] 5:=⟨_,rfl⟩
 have bt:∀ w:World,BRd (w.alloc T) (J ⟨w.heap.size,0,Z⟩) [n / 256,n % 256]:=fun w=>by rw [hT]; exact Qvg w n hn
 have bo:∀ w:World,BRd (w.alloc O) (J ⟨w.heap.size,0,Z⟩) [k]:=fun w=>by rw [hO]; exact Qy8 w k hk
 have ct:∀ w:World,Calls I 34 #[U X (n:Int)] w fun e w'=>e=Y (V (J ⟨w.heap.size,0,Z⟩) 2 2)∧w'=w.alloc T:=fun w=>by rw [hT]; exact Qyk n w hn
 have al:∀ (w:World) (o:Obj),Below w.heap.size w (w.alloc o):=fun w o=>(Below.refl _ _).alloc (Nat.le_refl _) _
 refine wpAnyH_all r0 (by simp) fun i hi=>?_
 have hi2:i=4∨i=9:=by simpa using hi
 rcases hi2 with rfl | rfl
 ·refine Qbo h4 rfl (Qp8 _ _ (Qaf s29) ((ct W0).mono ?_))
  rintro e w' ⟨rfl,rfl⟩
  have b1:Below B w0 (W0.alloc T):=hW0.alloc hB T
  have B1:B≤(W0.alloc T).heap.size:=Nat.le_trans hB (al W0 T).size
  refine ⟨_,rfl,b1,?_⟩
  refine wpAnyH_all r4 (by simp) fun i hi=>?_
  have hi2:i=5∨i=9:=by simpa using hi
  rcases hi2 with rfl | rfl
  ·obtain ⟨v',w',hr,ho',hg',_⟩:=Qfy [n / 256,n % 256] (J ⟨W0.heap.size,0,Z⟩) 2 (ho.alloc T) B1 (by simp; omega) (bt W0)
   have hb':=Qer (ho.alloc T) B1 hg'
   refine Qbo h5 rfl (Qjg _ _ _ _ _ (Qaf (by rw [Qab _ (by decide)]; exact s26)) (Qaf (Qak _ (by rw [hsz]; decide))) hr ?_)
   have b2:=b1.trans hb'
   refine ⟨b2,?_⟩
   refine wpAnyH_all r45 (by simp) fun i hi=>?_
   obtain rfl:i=9:=by simpa using hi
   refine Qbo h9 rfl (Qmj 34 _ (by rw [Qab _ (by decide),Qab _ (by decide)]; exact s34) ?_)
   rw [← hO]
   have b3:=b2.alloc (Nat.le_trans B1 hb'.size) O
   refine ⟨b3,?_⟩
   rw [eC]
   exact fin _ _ _ _ b3 (ho'.alloc O) (bo w')
  ·refine Qbo h9 rfl (Qmj 34 _ (by rw [Qab _ (by decide)]; exact s34) ?_)
   rw [← hO]
   have b2:=b1.alloc B1 O
   have B2:B≤((W0.alloc T).alloc O).heap.size:=Nat.le_trans B1 (al _ O).size
   refine ⟨b2,?_⟩
   refine wpAnyH_all r49 (by simp) fun i hi=>?_
   obtain rfl:i=5:=by simpa using hi
   obtain ⟨v',w',hr,ho',hg',_⟩:=Qfy [n / 256,n % 256] (J ⟨W0.heap.size,0,Z⟩) 2 ((ho.alloc T).alloc O) B2 (by simp; omega) ((bt W0).below (al _ O))
   have hb':=Qer ((ho.alloc T).alloc O) B2 hg'
   refine Qbo h5 rfl (Qjg _ _ _ _ _ (Qaf (by rw [Qab _ (by decide),Qab _ (by decide)]; exact s26)) (Qaf (by rw [Qab _ (by decide)]; exact Qak _ (by rw [hsz]; decide))) hr ?_)
   have b3:=b2.trans hb'
   refine ⟨b3,?_⟩
   rw [eB,Qlq (b.put (J 30) _) _ v' (by decide)]
   exact fin _ _ _ _ b3 ho' (Qmo (bo _) hg' (nb _ (by simp)) (by simp))
 ·refine Qbo h9 rfl (Qmj 34 _ s34 ?_)
  rw [← hO]
  have b1:=hW0.alloc hB O
  have B1:B≤(W0.alloc O).heap.size:=Nat.le_trans hB (al W0 O).size
  refine ⟨b1,?_⟩
  refine wpAnyH_all r9 (by simp) fun i hi=>?_
  obtain rfl:i=4:=by simpa using hi
  refine Qbo h4 rfl (Qp8 _ _ (Qaf (by rw [Qab _ (by decide)]; exact s29)) ((ct (W0.alloc O)).mono ?_))
  rintro e w' ⟨rfl,rfl⟩
  have b2:=b1.alloc B1 T
  have B2:B≤((W0.alloc O).alloc T).heap.size:=Nat.le_trans B1 (al _ T).size
  refine ⟨_,rfl,b2,?_⟩
  refine wpAnyH_all r94 (by simp) fun i hi=>?_
  obtain rfl:i=5:=by simpa using hi
  obtain ⟨v',w',hr,ho',hg',_⟩:=Qfy [n / 256,n % 256] (J ⟨(W0.alloc O).heap.size,0,Z⟩) 2 ((ho.alloc O).alloc T) B2 (by simp; omega) (bt (W0.alloc O))
  have hb':=Qer ((ho.alloc O).alloc T) B2 hg'
  refine Qbo h5 rfl (Qjg _ _ _ _ _ (Qaf (by rw [Qab _ (by decide),Qab _ (by decide)]; exact s26)) (Qaf (Qak _ (by simp [Act.put,hsz]))) hr ?_)
  have b3:=b2.trans hb'
  refine ⟨b3,?_⟩
  rw [eA,Qlq b _ _ (show (35:Nat)≠30 by decide),Qlq (b.put (J 30) _) _ v' (show (35:Nat)≠31 by decide)]
  exact fin _ _ _ _ b3 ho' (Qmo ((bo W0).below (al _ T)) hg' (nb _ (by simp)) (by simp))
theorem Qzz (k:Nat):Qal (List.replicate (k+1) 255)=Qal (List.replicate k 255)++[U .u8 255]:=by
 rw [List.replicate_succ',Qfo]
 rfl
section
attribute [local go_sem ↓] Qbe Qni
theorem Qxq (k:Nat)(C:Array Value)(ys:List Nat)(nb:Nat)(w:World)(hC:MC C)(h0:C[0]?=J (U X (k:Int)))(hk:k < 256)(hnb:ys.length=nb)(hy:nb≤4077)
  (KB:∀ o,Calls I 33 #[.agg C] (w.alloc o) fun e w'=>∃ ab cb,e=Y (.tuple #[V ab nb cb,.bool true])∧BRd w' ab ys∧Below (w.alloc o).heap.size (w.alloc o) w') :
  Calls I 17 #[.agg C] w fun e w'=>∃ v,e=Y v∧w'.ownsRow w.heap.size 5 1 v (ff16++[(19+nb) / 256,(19+nb) % 256,k]++ys).length (Qal (ff16++[(19+nb) / 256,(19+nb) % 256,k]++ys))∧Below w.heap.size w w':=by
 have HKB:=Qaa KB
 have HC:=Qaa hC
 have HY:=Qaa hnb
 have bx0:(w.alloc (E C 40)).heap[w.heap.size]?=J (E C 40 (0,0)):=heap_alloc_new w _
 have HBX:=Qaa bx0
 have HL:=Qaa (Qgc (Qai bx0) hC)
 clear hC hnb KB bx0
 have dy:decide ((4077:Int) < (nb:Int))=false:=decide_eq_false (by omega)
 go_enter Tryz.func17,Tryz.ntmps17
 go_wp2_with (first | (refine Qe0 _ (.agg C) _ (by rfl) (Qlp C w) ?_) | (refine Qbq _ _ _ (by rfl) HL.out ?_))
 refine (HKB.out (E C 40)).mono ?_
 rintro e w2 ⟨ab,cb,rfl,hbr,hb2⟩
 have HBr:=Qaa hbr
 have HB2:Hid (Below w.heap.size w w2):=((Below.refl _ _).alloc (Nat.le_refl _) _).trans (hb2.mono (by simp))
 have hx2:w2.heap[w.heap.size]?=J (E C 40 (0,0)):=by rw [hb2.block _ (by simp)]; exact HBX.out
 have HX2:=Qaa hx2
 have hz2:w.heap.size < w2.heap.size:=(D.1 hx2).1
 clear hbr hb2 hx2
 go_wp2
 go_loopw [5,6] (fun v i wq=>∃ (j:Nat) (a:Option Addr) (c:Nat),j≤16∧i=U X j∧v=V a j c∧Hid (wq.ownsRow w2.heap.size 5 1 (V a j c) j (Qal (List.replicate j 255)))∧Hid (Below w2.heap.size w2 wq)) (fun _ i _=>16 - (intOf i).toNat)
 case atStart=>exact ⟨0,Z,0,Nat.zero_le _,rfl,rfl,Qbm _ _ _ _,Below.refl _ _⟩
 case round =>
  obtain ⟨j,a,c,hj,rfl,rfl,HO,HB⟩:=hrel
  by_cases hlt:j < 16
  ·obtain ⟨v',w',hr,ho,hb⟩:=Qig elemU8 HO.out HB.out.size 1 [U .u8 255] rfl (by simp [Value.oneCell']) (by omega) wr.heap.size rfl
   rw [← Qzz] at ho
   obtain ⟨a',c',rfl⟩:=Qbs ho
   have HR:=Qaa hr
   have HO2:=Qaa ho
   have HB3:Hid (Below w2.heap.size w2 w'):=HB.out.trans hb
   clear hr ho hb
   go_wp2_with ((with_reducible refine Qdw _ _ 22 _ (V (J ⟨wr.heap.size,0,Z⟩) 1 1) _ ?_ ?_ HR.out ?_); (· rfl); (· rfl))
   exact ⟨⟨j+1,a',c',by omega,by go_num,rfl,HO2,HB3⟩,by simp [intOf]; omega⟩
  ·obtain rfl:j=16:=by omega
   clear hlt hj
   have hx3:wr.heap[w.heap.size]?=J (E C 40 (0,0)):=by rw [HB.out.block _ hz2]; exact HX2.out
   have hz3:w.heap.size < wr.heap.size:=(D.1 hx3).1
   have hS3:=HB.out.size
   go_wp2_with fail
   have kc:∀ W,Below w2.heap.size w2 W→W.cell? ⟨w.heap.size,0,Z⟩=J (U X (k:Int)):=fun W hW=>by
    have hx:W.heap[w.heap.size]?=J (E C 40 (0,0)):=by rw [hW.block _ hz2]; exact HX2.out
    exact Qai hx 0 _ (by rw [Array.getElem?_toList]; exact h0)
   have en:IntKind.i64.wrap (19+(nb:Int))=((19+nb:Nat):Int):=by rw [IntKind.wrap_i64]; omega
   have ek:IntKind.u8.wrap (k:Int)=(k:Int):=by rw [IntKind.wrap_u8]; omega
   refine Qpj (fun W=>Below w2.heap.size w2 W) [0,1,2,3,6,7,8] 5 #[true,true,true,true,false,false,true,true,true,false,false,false] (by kernel_rfl) (by kernel_rfl) (by rfl) (by kernel_rfl) (by rfl) HB.out.drew ?_
   repeat refine Jcc (by rfl) (by rfl) (fun w9 h9=>(by have s0:=kc w9 h9; clear h9; go_simp; first | done | rfl)) (by go_simp; first | done | rfl) ?_
   show wpAnyH _ _ _ _ _ _ _ _ _
   refine Qog (f:=2) (L0:=#[true,true,true,true,false,false,true,true,true,false,false,false]) (Lf:=#[true,true,true,true,true,true,true,true,true,true,false,false]) _ w2 _ w2.heap.size (19+nb) k (V a 16 c) (List.replicate 16 255) (by omega) hk (by simp) (HO.out) HB.out.size HB.out.drew ⟨_,_,_,rfl⟩ ⟨_,_,rfl⟩ ⟨_,_,_,rfl⟩ (by kernel_rfl) (by kernel_rfl) (by kernel_rfl) (by kernel_rfl) (by kernel_rfl) (by kernel_rfl) (by rfl) (by rfl) (by rfl) (by rfl) (by rfl) (by rfl) (by rfl) ?_
   intro W x v h hbW hoW hdW
   obtain ⟨va,vc,rfl⟩:=Qbs hoW
   obtain ⟨v',w',hr,ho',hg',_⟩:=Qfy [k] (J ⟨h,0,Z⟩) 1 hoW hbW.size (by simp) hdW
   have hb':=Qer hoW hbW.size hg'
   have b5:=hbW.trans hb'
   refine Qmf (L:=fun k=>k == 10) (by kernel_rfl) (fun c a a' w h=>absurd rfl (h.1 c)) [10,11] _ _ _ (by kernel_rfl) hbW ?_
   refine Jb7 (by rfl) (by rfl) (by rfl) ?_
   refine Qjg _ _ _ _ _ (by rfl) (by rfl) hr ?_
   refine ⟨b5,?_⟩
   repeat refine Jb9 (by rfl) (by rfl) (by rfl) (fun w9 h9=>(by go_simp; first | done | rfl)) (by go_simp; first | done | rfl) ?_
   refine ⟨fun _ h=>(by cases h),?_⟩
   obtain ⟨va2,vc2,rfl⟩:=Qbs ho'
   obtain ⟨v7,w7,hr7,ho7,hg7,_⟩:=Qfy ys ab cb ho' b5.size (by simp [HY.out]; omega) (HBr.out.below b5)
   have hb7:=Qer ho' b5.size hg7
   rw [HY.out] at hr7
   have HR7:=Qaa hr7
   have HO7:Hid (w7.ownsRow w.heap.size 5 1 v7 (ff16++[(19+nb) / 256,(19+nb) % 256,k]++ys).length (Qal (ff16++[(19+nb) / 256,(19+nb) % 256,k]++ys))):=by
    have e:List.replicate 16 255++[(19+nb) / 256,(19+nb) % 256]++[k]++ys=ff16++[(19+nb) / 256,(19+nb) % 256,k]++ys:=by simp [ff16]
    rw [e] at ho7
    exact Qa0 ho7 (by omega)
   have HB7:Hid (Below w.heap.size w w7):=HB2.out.trans ((b5.trans hb7).mono (by omega))
   clear hr ho' hg' hb' b5 hr7 ho7 hg7 hb7 hoW hdW hbW kc
   have e19:(List.replicate 16 255++[(19+nb) / 256,(19+nb) % 256]++[k]).length=19:=by simp
   rw [e19] at HR7 ⊢
   go_wp2_with ((with_reducible refine Qdw _ _ 22 _ (V ab nb cb) _ ?_ ?_ HR7.out ?_); (· rfl); (· rfl))
   go_ret
   exact ⟨_,rfl,HO7.out,HB7.out⟩
end
theorem Qri (w:World):Calls I 17 #[.agg (Qbt 4 0 0 (V Z 0 0))] w fun e w'=>∃ a c,e=Y (V (J a) 19 c)∧19≤c∧a.spot=Z∧w.heap.size≤a.block∧Hid (BRd w' (J a) (ff16++[0,19,4]))∧Hid (Below w.heap.size w w'):=by
 refine (Qxq 4 (Qbt 4 0 0 (V Z 0 0)) [] 0 w (MC.msg 4 0 0 Z 0 0) rfl (by decide) rfl (by decide) (fun o=>?_)).mono ?_
 ·refine (Qpa (w.alloc o)).mono ?_
  rintro e w' ⟨rfl,hb⟩
  exact ⟨Z,0,rfl,Qbf _ _,hb⟩
 ·rintro e w' ⟨v,rfl,ho,hb⟩
  have e1:ff16++[(19+0) / 256,(19+0) % 256,4]++[]=ff16++[0,19,4]:=by decide
  rw [e1] at ho
  obtain ⟨a,c,rfl,hc,hr⟩:=Qic ho (by decide) (by decide)
  obtain ⟨b,off,rfl,_⟩:=hr.1.2 (by decide)
  exact ⟨_,c,rfl,hc,rfl,(Qb1 ho b (by simp [Value.ownBlock])).1,hr,hb⟩
