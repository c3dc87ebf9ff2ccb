import Derived.Test.YtdojlejehjbliaaGreatDoorPA38
import Derived.Test.YtdojlejehjbliaaGreatDoorPA45
import Derived.Test.YtdojlejehjbliaaGreatDoorPA47
import Derived.Test.YtdojlejehjbliaaGreatDoorPA48
namespace Go.Proofs.YtdojlejehjbliaaGreatDoor
set_option maxHeartbeats 25600000
open _root_.Option renaming none → I,some → U
open _root_.Go.Value renaming slice → J,int → V,pointer → E
open _root_.Go.IntKind renaming i64 → Z
open _root_.List renaming length_drop → Y
open _root_.Nat renaming le_refl → X
open _root_.Go.Obj renaming cells → K
open _root_.Go.Proofs.Tryz renaming prog → D
open Go.RowKit
set_option maxRecDepth 100000
theorem Qt8 {l:List Nat}{k:Nat} (h:k+2≤l.length):Qcn ((l.drop k).take 2)=256 * l.getD k 0+l.getD (k+1) 0:=by
 rw [Qph (by rw [Y]; omega),Qgg,Qgg,Nat.add_zero]
theorem Qys {l:List Nat}{k:Nat} (h:k+4≤l.length):Qcn ((l.drop k).take 4)=num fun i=>l.getD (k+i) 0:=by
 have e:(l.drop k).take 4=[l.getD k 0,l.getD (k+1) 0,l.getD (k+2) 0,l.getD (k+3) 0]:=by
  have h4:4≤(l.drop k).length:=by rw [Y]; omega
  have g:∀ i,l.getD (k+i) 0=(l.drop k).getD i 0:=fun i=>(Qgg l k i).symm
  have g0:=g 0
  rw [Nat.add_zero] at g0
  rw [g0,g 1,g 2,g 3]
  match l.drop k,h4 with
  | a :: b :: c :: d :: r,_=>simp
 rw [e,Qmy]
 unfold num
 simp only [Nat.add_zero]
 omega
theorem Qrf (g o n cp:Nat)(bs:List Nat)(w:World)(hn:bs.length=n)(hn29:29≤n)(hl:n≤5000)(hcap:n≤cp)(h:BRd w (U ⟨g,o,I⟩) bs)(hr:Qa6 bs=(n,0,0,[]))(hk1:bs.getD 18 0=1) :
  Calls D 8 #[J (U ⟨g,o,I⟩) n cp] w fun e w'=>Qza w w' e (match Qgu (bs.drop 19) with
  | .inl (k,s,d)=>(pm0,k,s,d)
  | .inr (a,h,i,c)=>(Qgy a h i c,0,0,[]))∧Below w.heap.size w w':=by
 have hBl:(bs.drop 19).length=n - 19:=by rw [Y,hn]
 unfold Qgu
 by_cases h4:(bs.drop 19).getD 0 0≠4
 ·rw [if_pos h4]
  exact (Qu5 g o n cp bs w hn hn29 hl hcap h hr hk1 h4).mono fun e w' h=>⟨Qcg h.1,h.2⟩
 ·rw [if_neg h4]
  have h4':(bs.drop 19).getD 0 0=4:=by omega
  cases hrc:Qfc ((bs.drop 19).drop 10) with
  | none =>
   have:∀ (P:Prop) [Decidable P],(if P then (Sum.inl (2,0,[]):(Nat×Nat×List Nat) ⊕ (Int×Nat×Nat×Cp)) else Sum.inl (2,0,[]))=Sum.inl (2,0,[]):=fun P _=>by split <;> rfl
   simp only [this]
   exact (Qou g o n cp bs w hn hn29 hl hcap h hr hk1 h4' hrc).mono fun e w' h=>⟨Qcg h.1,h.2⟩
  | some cc =>
   by_cases h9:(bs.drop 19).getD 9 0≠(bs.drop 19).length - 10
   ·rw [if_pos h9]
    exact (Qpw g o n cp bs w hn hn29 hl hcap h hr hk1 h4' cc hrc (by rw [← hBl]; exact h9)).mono fun e w' h=>⟨Qcg h.1,h.2⟩
   ·rw [if_neg h9]
    have h9':(bs.drop 19).getD 9 0=n - 19 - 10:=by rw [← hBl]; omega
    simp only
    rw [Qt8 (k:=1) (by omega),Qt8 (k:=3) (by omega),Qys (k:=5) (by omega)]
    obtain ⟨sa,hsa⟩:∃ sa,sa=256 * (bs.drop 19).getD 1 0+(bs.drop 19).getD 2 0:=⟨_,rfl⟩
    rw [← hsa]
    by_cases h0:sa=0
    ·have e1:asB sa cc=false:=by simp [asB,h0]
     rw [e1]
     exact (Qxi g o n cp bs w hn hn29 hl hcap h hr hk1 h4' cc hrc h9' sa hsa h0).mono fun e w' h=>⟨Qcg h.1,h.2⟩
    ·cases hf:cc.four with
     | false =>
      have e1:asB sa cc=true:=by simp [asB,h0,hf]
      have e2:asV sa cc=(sa:Int):=by simp [asV,e1,hf]
      rw [e1,e2]
      refine (Qyl g o n cp bs w hn hn29 hl hcap h hr hk1 h4' cc hrc h9' sa hsa h0 hf).mono ?_
      rintro e w' ⟨rfl,hb⟩
      exact ⟨⟨_,I,0,rfl,Qci.openm _ _ _ _ _ _,fun x=>absurd rfl x⟩,hb⟩
     | true =>
      by_cases h1:(sa:Int)=cc.as4
      ·have e1:asB sa cc=true:=by simp [asB,h0,h1]
       have e2:asV sa cc=cc.as4:=by simp [asV,e1,hf]
       rw [e1,e2]
       refine (Qtp g o n cp bs w hn hn29 hl hcap h hr hk1 h4' cc hrc h9' sa hsa h0 hf (.inl h1)).mono ?_
       rintro e w' ⟨rfl,hb⟩
       exact ⟨⟨_,I,0,rfl,Qci.openm _ _ _ _ _ _,fun x=>absurd rfl x⟩,hb⟩
      ·by_cases h2:sa=23456
       ·have e1:asB sa cc=true:=by simp [asB,h2]
        have e2:asV sa cc=cc.as4:=by simp [asV,e1,hf]
        rw [e1,e2]
        refine (Qtp g o n cp bs w hn hn29 hl hcap h hr hk1 h4' cc hrc h9' sa hsa h0 hf (.inr ⟨h1,h2⟩)).mono ?_
        rintro e w' ⟨rfl,hb⟩
        exact ⟨⟨_,I,0,rfl,Qci.openm _ _ _ _ _ _,fun x=>absurd rfl x⟩,hb⟩
       ·have e1:asB sa cc=false:=by simp [asB,h0,hf,h1,h2]
        rw [e1]
        exact (Qwv g o n cp bs w hn hn29 hl hcap h hr hk1 h4' cc hrc h9' sa hsa h0 hf h1 h2).mono fun e w' h=>⟨Qcg h.1,h.2⟩
theorem Qwo (g o n cp:Nat)(bs:List Nat)(w:World)(hn:bs.length=n)(hn23:23≤n)(hl:n≤5000)(hcap:n≤cp)(h:BRd w (U ⟨g,o,I⟩) bs)(hr:Qa6 bs=(n,0,0,[]))(hk2:bs.getD 18 0=2) :
  Calls D 8 #[J (U ⟨g,o,I⟩) n cp] w fun e w'=>Qza w w' e (match upR (bs.drop 19) with
  | .inl (k,s,d)=>(pm0,k,s,d)
  | .inr (G,N,r)=>(Qko G N r,0,0,[]))∧Below w.heap.size w w':=by
 have hBl:(bs.drop 19).length=n - 19:=by rw [Y,hn]
 have good:∀ {e:Ending}{w':World}{P Q:List (Nat×Nat)}{r:Option At},(∃ v u A,e=.returned (.tuple #[.agg (updMsg 2 (Qct v A u)),.agg #[V Z 0,V Z 0,J I 0 0]])∧Qoe w.heap.size P Q v u A r w')→Qza w w' e (Qko P Q r,0,0,[]):=by
  rintro e w' P Q r ⟨v,u,A,rfl,hx⟩
  exact ⟨_,I,0,rfl,Qci.upd hx,fun x=>absurd rfl x⟩
 obtain ⟨G,hG⟩:∃ G,G=256 * (bs.drop 19).getD 0 0+(bs.drop 19).getD 1 0:=⟨_,rfl⟩
 by_cases hu:n - 19 < G+4
 ·rw [Qud (by omega) (by rw [← hG,hBl]; exact hu)]
  exact (Qyg g o n cp bs w hn hn23 hl hcap h hr hk2 G hG hu).mono fun e w' h=>⟨Qcg h.1,h.2⟩
 ·obtain ⟨A,hA⟩:∃ A,A=256 * (bs.drop 19).getD (2+G) 0+(bs.drop 19).getD (3+G) 0:=⟨_,rfl⟩
  have hu1:G+4≤n - 19:=by omega
  rw [Qzt hG hA (by rw [hBl]; exact hu1),hBl]
  by_cases hu2:n - 19 < G+4+A
  ·rw [if_pos hu2]
   exact (Qzs g o n cp bs w hn hn23 hl hcap h hr hk2 G hG A hA hu1 hu2).mono fun e w' h=>⟨Qcg h.1,h.2⟩
  ·rw [if_neg hu2]
   have hu3:G+4+A≤n - 19:=by omega
   cases h1:Qda (((bs.drop 19).drop 2).take G) with
   | none =>
    exact (Qxx g o n cp bs w hn hn23 hl hcap h hr hk2 G hG A hA hu1 hu3 _ _ _ _ rfl rfl rfl rfl (by rw [h1]; rfl)).mono fun e w' h=>⟨Qcg h.1,h.2⟩
   | some P =>
    cases h2:Qda ((bs.drop 19).drop (G+4+A)) with
    | none =>
     exact (Qw6 g o n cp bs w hn hn23 hl hcap h hr hk2 G hG A hA hu1 hu3 _ _ _ _ rfl rfl rfl rfl (by rw [h1]; rfl) (by rw [h2]; rfl)).mono fun e w' h=>⟨Qcg h.1,h.2⟩
    | some Q =>
     simp only
     have p1:(Qda (((bs.drop 19).drop 2).take G)).getD []=P:=by rw [h1]; rfl
     have p2:(Qda (((bs.drop 19).drop 2).take G)).isSome=true:=by rw [h1]; rfl
     have p3:(Qda ((bs.drop 19).drop (G+4+A))).getD []=Q:=by rw [h2]; rfl
     have p4:(Qda ((bs.drop 19).drop (G+4+A))).isSome=true:=by rw [h2]; rfl
     have hAl:(((bs.drop 19).drop (4+G)).take A).length=A:=by rw [List.length_take,Y,hBl]; omega
     have hA0:((bs.drop 19).drop (4+G)).take A=[]↔A=0:=by rw [← List.length_eq_zero_iff,hAl]
     by_cases hQ0:Q=[]
     ·by_cases hAz:A=0
      ·rw [if_pos ⟨hQ0,hA0.2 hAz⟩]
       exact (Qy4 g o n cp bs w hn hn23 hl hcap h hr hk2 G hG A hA hu1 hu3 P Q p1 p2 p3 p4 hQ0 hAz).mono fun e w' h=>⟨good h.1,h.2⟩
      ·rw [if_neg (fun x=>hAz (hA0.1 x.2))]
       cases h6:Qbv (((bs.drop 19).drop (4+G)).take A) with
       | inl x =>
        obtain ⟨k0,s,d⟩:=x
        exact (Qvs g o n cp bs w hn hn23 hl hcap h hr hk2 G hG A hA hu1 hu3 P Q p1 p2 p3 p4 hQ0 (by omega) k0 s d h6).mono fun e w' h=>⟨Qcg h.1,h.2⟩
       | inr b =>
        simp only
        rw [if_pos hQ0]
        subst hQ0
        exact (Qzg g o n cp bs w hn hn23 hl hcap h hr hk2 G hG A hA hu1 hu3 P [] p1 p2 p3 p4 rfl (by omega) b h6).mono fun e w' h=>⟨good h.1,h.2⟩
     ·rw [if_neg (fun x=>hQ0 x.1)]
      cases h6:Qbv (((bs.drop 19).drop (4+G)).take A) with
      | inl x =>
       obtain ⟨k0,s,d⟩:=x
       exact (Qwr g o n cp bs w hn hn23 hl hcap h hr hk2 G hG A hA hu1 hu3 P Q p1 p2 p3 p4 hQ0 k0 s d h6).mono fun e w' h=>⟨Qcg h.1,h.2⟩
      | inr b =>
       simp only
       rw [if_neg hQ0]
       exact (Qyu g o n cp bs w hn hn23 hl hcap h hr hk2 G hG A hA hu1 hu3 P Q p1 p2 p3 p4 hQ0 b h6).mono fun e w' h=>⟨good h.1,h.2⟩
theorem Qvf (a:Option Addr)(cp n:Nat)(bs:List Nat)(w:World)(hn:bs.length=n)(hl:n≤5000)(hcap:n≤cp)(h:BRd w a bs) :
  Calls D 8 #[J a n cp] w fun e w'=>Qza w w' e (Qcx bs)∧Below w.heap.size w w':=by
 rcases Qjn bs with ⟨k,s,d,hh,hk⟩ | ⟨h19,hh⟩ | ⟨h19,hh,hm,hm2,hk,hl1,hl2⟩
 ·rw [Qnk hh hk]
  exact (Qxd a cp n bs w hn (by omega) (by omega) h k s d hh hk).mono fun e w' h=>⟨Qcg h.1,h.2⟩
 ·rw [Qgs hh (.inl rfl)]
  exact (Qms a cp n bs w hn (by omega) (by omega) h 0 hh (by omega) (.inl rfl)).mono fun e w' h=>⟨Qcg h.1,h.2⟩
 ·by_cases hz:Qbg bs=bs.length
  ·obtain ⟨g,o,rfl,_⟩:=h.1.2 (by omega)
   rw [hz] at hh
   have hh':Qa6 bs=(n,0,0,[]):=by rw [hh,hn]
   rcases hk with hk | hk | hk | hk
   ·rw [Qla hh (by omega) hk]
    rw [hk] at hl1
    have hl3:29≤Qbg bs:=hl1
    exact Qrf g o n cp bs w hn (by omega) hl hcap h hh' hk
   ·rw [Qqi hh (by omega) hk]
    rw [hk] at hl1
    have hl3:23≤Qbg bs:=hl1
    exact Qwo g o n cp bs w hn (by omega) hl hcap h hh' hk
   ·rw [Qk2 hh (by omega) hk]
    rw [hk] at hl1
    have hl3:21≤Qbg bs:=hl1
    refine (Qts g o n cp bs w hn (by omega) hl hcap h hh' hk).mono ?_
    rintro e w' ⟨⟨a8,c8,rfl,ho⟩,hb⟩
    have hd:(bs.drop 21).length=n - 19 - 2:=by rw [Y]; omega
    rw [← hd] at ho ⊢
    exact ⟨⟨_,I,0,rfl,Qci.note ho,fun x=>absurd rfl x⟩,hb⟩
   ·rw [Qkd hh (by omega) hk]
    refine (Qre g o n cp bs w hn (by omega) hl hcap h hh' hk).mono ?_
    rintro e w' ⟨rfl,hb⟩
    exact ⟨⟨_,I,0,rfl,Qci.alive _ _,fun x=>absurd rfl x⟩,hb⟩
  ·rw [Qgs hh (.inr hz)]
   exact (Qms a cp n bs w hn (by omega) (by omega) h _ hh (by omega) (.inr (by omega))).mono fun e w' h=>⟨Qcg h.1,h.2⟩
def vlen:Value→Nat
 | J _ m _=>m
 | _=>0
section
attribute [local go_sem ↓] Qbe Qba keptM_alloc
theorem Qyy (a0 a1:Option Addr)(c0 c1 n cn:Nat)(bs ks:List Nat)(w:World)(hS:Qdb w)(hA:Qfa w)(hn:bs.length=n)(hcn:ks.length=cn)(hl:n≤8000)(hl2:cn≤300)(hc0:n≤c0)(hb:BRd w a0 bs)(hk:BRd w a1 ks) :
  Calls D 4 #[J a0 n c0,J a1 cn c1] w fun e w'=>e=.returned (.bool true)∧Below w.heap.size w w':=by
 have HANS:=Qaa (fun (W:World) (hb:Below w.heap.size w W)=>Qiz W (hS.below hb))
 have HS:=Qaa hS
 have HA:=Qaa hA
 have HN:=Qaa hn
 have HCN:=Qaa hcn
 have HB:=Qaa hb
 have HKS:=Qaa hk
 have i1:decide ((8000:Int) < (n:Int))=false:=decide_eq_false (by omega)
 have i2:decide ((300:Int) < (cn:Int))=false:=decide_eq_false (by omega)
 clear hS hA hb hk hn hcn
 go_enter Tryz.func4,Tryz.ntmps4
 go_wp2_with fail
 refine (Qqy w).mono ?_
 rintro e w1 ⟨rfl,rfl⟩
 have HC0:Hid (Qp3 w (w.alloc (K #[J I 0 0,V Z 0,V Z 0,J I 0 0] 72)) w.heap.size bs 0 0 a0 c0) :=
  ⟨(Below.refl _ _).alloc (X _) _,⟨_,_,_,Qtc w,Qck.nil _ _,by simp [Value.ownBlock]⟩,HB.out,by rw [HN.out]; exact hc0⟩
 generalize w.alloc (K #[J I 0 0,V Z 0,V Z 0,J I 0 0] 72)=w1 at *
 go_wp2_with fail
 have HW0:Hid ((0:Nat) < 0→Qv3 ((bs.drop 0).take (0 - 0))):=fun h=>absurd h (by omega)
 have HE0:Hid ((0:Nat)=cn+1→0=n):=fun h=>absurd h (by omega)
 go_loopw [6,7,8] (fun at_ rest i wq=>∃ (p q k:Nat) (ar:Option Addr) (cr:Nat),q≤p∧p≤n∧k≤cn+1∧at_=V Z p∧rest=J ar (n - q) cr∧i=V Z k∧Hid (Qp3 w wq w.heap.size bs p q ar cr)∧Hid (k=cn+1→p=n)∧Hid (0 < k→Qv3 ((bs.drop q).take (p - q)))) (fun _ _ i _=>cn+1 - (intOf i).toNat)
 case atStart=>exact ⟨0,0,0,a0,c0,X _,Nat.zero_le _,Nat.zero_le _,rfl,by rw [Nat.sub_zero],rfl,HC0,HE0,HW0⟩
 case round =>
  clear HC0 HE0 HW0
  obtain ⟨p,q,k,ar,cr,hqp,hpn,hk,rfl,rfl,rfl,HC,HE,HW⟩:=hrel
  by_cases hkc:k≤cn
  ·skip
   have p0:(0:Int)≤(p:Int):=Int.natCast_nonneg _
   have k0:(0:Int)≤(k:Int):=Int.natCast_nonneg _
   have kc:(k:Int)≤(cn:Int):=by omega
   have pn:(p:Int)≤(n:Int):=by omega
   have hw1:IntKind.i64.wrap ((n:Int) - (p:Int))=((n - p:Nat):Int):=by rw [IntKind.wrap_i64]; omega
   obtain ⟨x,hx⟩:∃ x,x=ks.getD k 0:=⟨_,rfl⟩
   have HXC:Hid (k < cn→x < 256∧∃ g1 o1,a1=U ⟨g1,o1,I⟩∧wr.cell? ⟨g1,o1+k,I⟩=U (V .u8 (x:Int))):=fun h1=>by
    obtain ⟨g1,o1,e1,hc1⟩:=HKS.out.1.2 (by have:=HCN.out; omega)
    have q1:w.cell? ⟨g1,o1+k,I⟩=U (V .u8 ((ks.getD k 0:Nat):Int)):=hc1 k (by have:=HCN.out; omega)
    rw [← hx] at q1
    refine ⟨?_,g1,o1,e1,by rw [HC.out.bel.cell (World.block_lt_of_cell? w _ q1)]; exact q1⟩
    rw [hx,List.getD_eq_getElem?_getD,List.getElem?_eq_getElem (by have:=HCN.out; omega)]
    exact HKS.out.2 _ (List.getElem_mem _)
   clear hx
   go_upto_region 9 with fail
   go_cut [59] from 37 to 177 (fun v wq=>v=.bool (decide (k < cn) && decide (x < n - p))∧wq=wr)
   case first =>
    as_aux_lemma =>
     by_cases h1:k < cn
     ·obtain ⟨h5,g1,o1,rfl,q1⟩:=HXC.out h1
      have h2:(k:Int) < (cn:Int):=by omega
      have h6:IntKind.i64.wrap (x:Int)=(x:Int):=by rw [IntKind.wrap_i64]; omega
      have h4:decide (k < cn)=true:=decide_eq_true h1
      have h7:decide ((x:Int) < ((n - p:Nat):Int))=decide (x < n - p):=by simp only [Int.ofNat_lt]
      by_cases h8:(x:Int) < ((n - p:Nat):Int)
      ·have h9:decide ((x:Int) < ((n - p:Nat):Int))=true:=decide_eq_true h8
       go_wp2_with fail
       go_meet
       exact ⟨by rw [h4,← h7,h9]; rfl,rfl⟩
      ·have h9:decide ((x:Int) < ((n - p:Nat):Int))=false:=decide_eq_false h8
       go_wp2_with fail
       go_meet
       exact ⟨by rw [h4,← h7,h9]; rfl,rfl⟩
     ·have h2:decide ((k:Int) < (cn:Int))=false:=decide_eq_false (by omega)
      have h4:decide (k < cn)=false:=decide_eq_false h1
      go_wp2_with fail
      go_meet
      exact ⟨by rw [h4]; rfl,rfl⟩
   case rest =>
    obtain ⟨rfl,rfl⟩:=hcut
    go_upto_if 59 with fail
    go_cut [9] from 37 to 177 (fun v wq=>(∃ m:Nat,v=V Z m∧p+m≤n∧(k=cn→p+m=n))∧wq=wc)
    case first =>
     as_aux_lemma =>
      cases hbb:(decide (k < cn) && decide (x < n - p)) with
      | true =>
       rw [Bool.and_eq_true,decide_eq_true_eq,decide_eq_true_eq] at hbb
       obtain ⟨h1,h3⟩:=hbb
       obtain ⟨h5,g1,o1,rfl,q1⟩:=HXC.out h1
       have h2:(k:Int) < (cn:Int):=by omega
       have h6:IntKind.i64.wrap (x:Int)=(x:Int):=by rw [IntKind.wrap_i64]; omega
       go_wp2_with fail
       go_meet
       exact ⟨⟨x,rfl,by omega,fun h=>by omega⟩,rfl⟩
      | false =>
       go_wp2_with fail
       go_meet
       exact ⟨⟨n - p,rfl,by omega,fun h=>by omega⟩,rfl⟩
    case rest =>
     obtain ⟨⟨m,rfl,hm1,hm2⟩,rfl⟩:=hcut
     have m0:(0:Int)≤(m:Int):=Int.natCast_nonneg _
     have pm:(p:Int)+(m:Int)≤(n:Int):=by omega
     have hw2:IntKind.i64.wrap ((p:Int)+(m:Int))=((p+m:Nat):Int):=by rw [IntKind.wrap_i64]; omega
     go_upto_region 11 with fail
     go_cut [72] from 37 to 177 (fun _ wq=>Hid (Qp3 w wq w.heap.size bs (p+m) q ar cr))
     case first =>
      as_aux_lemma =>
       have hpn2:p≤c0:=by omega
       have pc:(p:Int)+(m:Int)≤(c0:Int):=by omega
       have pm2:(p:Int)≤(p:Int)+(m:Int):=by omega
       have hm9:p+m - p=m:=by omega
       rcases Qti (p:=p) (m:=m) HB.out with ⟨g,o,rfl,hz⟩ | hz
       ·have KF:=Qj1 (c:=c0 - p) HC.out (X _) hqp (by rw [HN.out]; exact hm1) (by rw [HN.out]; omega) (hz (by rw [HN.out]; omega))
        have HKF:=Qaa KF
        clear KF hz
        by_cases hce:c0=p
        ·obtain rfl:m=0:=by omega
         have HKN:=Qaa (fun (a:Option Addr) (c:Nat)=>Qj1 (a:=a) (m:=0) (c:=c) HC.out (X _) hqp (by rw [HN.out]; exact hm1) (by rw [HN.out]; omega) (by rw [List.take_zero]; exact Qjr w a))
         have hce2:c0 - p=0:=by omega
         clear hce
         go_wp2_with fail
         refine (HKN.out _ _).mono ?_
         rintro e w5 ⟨rfl,hc5⟩
         have HC5:=Qaa hc5
         clear hc5
         go_wp2_with fail
         go_meet
         exact HC5.out
        ·have hce2:¬ (c0:Int)=(p:Int):=by omega
         have hce3:p < c0:=by omega
         go_wp2_with fail
         refine (HKF.out).mono ?_
         rintro e w5 ⟨rfl,hc5⟩
         have HC5:=Qaa hc5
         clear hc5
         go_wp2_with fail
         go_meet
         exact HC5.out
       ·have hn0:n=0:=by rw [← HN.out,hz]; rfl
        have HKN:=Qaa (fun (a:Option Addr) (c:Nat)=>Qj1 (a:=a) (m:=m) (c:=c) HC.out (X _) hqp (by rw [HN.out]; exact hm1) (by rw [HN.out]; omega) (by rw [show m=0 by omega,List.take_zero]; exact Qjr w a))
        obtain rfl:m=0:=by omega
        obtain rfl:p=0:=by omega
        clear hz hn0
        cases a0 with
        | none =>
         go_wp2_with fail
         refine (HKN.out _ _).mono ?_
         rintro e w5 ⟨rfl,hc5⟩
         have HC5:=Qaa hc5
         clear hc5
         go_wp2_with fail
         go_meet
         exact HC5.out
        | some ad =>
         by_cases hce:c0 - 0=0
         ·go_wp2_with fail
          refine (HKN.out _ _).mono ?_
          rintro e w5 ⟨rfl,hc5⟩
          have HC5:=Qaa hc5
          clear hc5
          go_wp2_with fail
          go_meet
          exact HC5.out
         ·go_wp2_with fail
          refine (HKN.out _ _).mono ?_
          rintro e w5 ⟨rfl,hc5⟩
          have HC5:=Qaa hc5
          clear hc5
          go_wp2_with fail
          go_meet
          exact HC5.out
     case rest =>
      have HC1:=Qaa hcut
      clear hcut HC
      obtain ⟨p2,hp2⟩:∃ p2,p2=p+m:=⟨_,rfl⟩
      rw [← hp2] at HC1 hw2
      have hqp2:q≤p2:=by omega
      have hp2n:p2≤n:=by omega
      have HE2:Hid (k+1=cn+1→p2=n):=fun h=>by have:=hm2 (by omega); omega
      clear hm1 hm2 pm m0 p0 pn hpn hqp hw1 HE HW HXC hp2
      have hp0:(0:Int)≤(p2:Int):=Int.natCast_nonneg _
      have hpi:(p2:Int)≤(n:Int):=by omega
      go_wp2_with fail
      go_loopw [7] (fun rest wq=>∃ (q:Nat) (ar:Option Addr) (cr:Nat),q≤p2∧rest=J ar (n - q) cr∧Hid (Qp3 w wq w.heap.size bs p2 q ar cr)) (fun rest _=>vlen rest)
      case atStart=>exact ⟨q,ar,cr,hqp2,rfl,HC1⟩
      case round =>
       clear HC1 hqp2
       obtain ⟨q3,ar3,cr3,hq3,rfl,HC3⟩:=hrel
       have hq0:(0:Int)≤(q3:Int):=Int.natCast_nonneg _
       have hs1:IntKind.i64.wrap ((n:Int) - ((n - q3:Nat):Int))=(q3:Int):=by rw [IntKind.wrap_i64]; omega
       have hs2:IntKind.i64.wrap ((p2:Int) - (q3:Int))=((p2 - q3:Nat):Int):=by rw [IntKind.wrap_i64]; omega
       have hpl:p2≤bs.length:=by rw [HN.out]; exact hp2n
       have hbl:bs.length≤8000:=by rw [HN.out]; exact hl
       obtain ⟨fd,hfd⟩:∃ fd,fd=p2 - q3:=⟨_,rfl⟩
       have HFD:=Qaa hfd
       rw [← hfd] at hs2
       have hf1:fd≤cr3:=by have:=HC3.out.cap; rw [HN.out] at this; omega
       have hf0:(0:Int)≤(fd:Int):=Int.natCast_nonneg _
       have hf2:(fd:Int)≤(cr3:Int):=by omega
       rcases Quf ((bs.drop q3).take (p2 - q3)) with ⟨kk,tt,nd,hh,hkk⟩ | hw | ⟨z,hh,hz0,hz⟩
       ·as_aux_lemma =>
         have KN:=Qaa (Qqe HC3.out hpl hbl HS.out hh hkk)
         have KN2:=Qaa (fun (W:World) (hb:Below wr.heap.size wr W)=>Qqe (HC3.out.later hb) hpl hbl HS.out hh hkk)
         have KH:=Qaa (fun (W:World) (hb:Below w.heap.size w W)=>Qhk ar3 cr3 ((bs.drop q3).take (p2 - q3)) W (by rw [Qc9 hpl]; omega) (by rw [Qc9 hpl]; have:=HC3.out.cap; omega) ((Qe8 HC3.out.rd _).below hb))
         rw [Qc9 hpl,hh,← hfd] at KH
         unfold Qu0 Qby at KH
         simp only at KH
         have hkz:((kk:Int) != 0)=true:=by simp; omega
         clear hfd
         have hnd:nd.length≤5000:=by
          have:=Qnn ((bs.drop q3).take (p2 - q3))
          rw [hh] at this
          simp only at this
          omega
         have hnb:∀ x∈nd,x < 256:=by
          have:=Qn1 (bs:=(bs.drop q3).take (p2 - q3)) (Qjd HC3.out.rd)
          rw [hh] at this
          exact this
         go_wp2_with fail
         refine KN.out.mono ?_
         rintro e w5 ⟨⟨u,rfl,a5,c5,rfl,ho5⟩,b5⟩
         have HO5:=Qaa ho5
         have B5:=Qaa b5
         clear ho5 b5
         obtain ⟨X1,X3,HRA,hX1,HST,HX3,HLB⟩:=Qec w5 MC.zero (kk:Int) (tt:Int) a5 nd.length c5
         have hX1s:=hX1
         obtain ⟨zx3,r0,r1,r2,f0,f1,f2⟩:=HX3.out
         go_wp2_with (first | (refine Qah _ HRA.out ?_; rw [hX1s] at *) | (refine Qam _ _ (E (U ⟨w5.heap.size,0,I⟩)) (.agg zM) (by rfl) (by rfl) HST.out ?_))
         generalize ((X3.setCell ⟨w5.heap.size+1,0,I⟩ (V Z (kk:Int))).setCell ⟨w5.heap.size+1,1,I⟩ (V Z (tt:Int))).setCell ⟨w5.heap.size+1,2,I⟩ (J a5 nd.length c5)=V1 at *
         clear HRA hX1 hX1s HST HX3 zx3 r0 r1 r2 f0 f1 f2
         have BV1:Hid (Below wr.heap.size wr V1):=B5.out.trans (HLB.out.bel.mono B5.out.size)
         have BWV:Hid (Below w.heap.size w V1):=HC3.out.bel.trans (BV1.out.mono HC3.out.bel.size)
         have HR5:Hid (∀ W,Below w5.heap.size w5 W→BRd W a5 nd):=fun W hb=>(Qfq HO5.out rfl (by omega) hnb).below hb
         refine (KH.out V1 BWV.out).mono ?_
         rintro e w6 ⟨⟨u6,rfl,a6,c6,rfl,ho6⟩,b6⟩
         have HR6:Hid (∀ W,Below w6.heap.size w6 W→BRd W a6 nd):=fun W hb=>(Qfq ho6 rfl (by omega) hnb).below hb
         have B6:=Qaa b6
         clear ho6 b6
         have HX6:Hid ((w6.alloc (K #[V Z (kk:Int),V Z (tt:Int),J a6 nd.length c6] 38)).heap[w6.heap.size]?=U (K #[V Z (kk:Int),V Z (tt:Int),J a6 nd.length c6] 38 (0,0))):=heap_alloc_new w6 _
         have BX6:Hid (Below w6.heap.size w6 (w6.alloc (K #[V Z (kk:Int),V Z (tt:Int),J a6 nd.length c6] 38))):=(Below.refl _ _).alloc (X _) _
         go_wp2_with fail
         generalize (w6.alloc (K #[V Z (kk:Int),V Z (tt:Int),J a6 nd.length c6] 38))=V2 at *
         have B12:Hid (Below V1.heap.size V1 V2):=B6.out.trans (BX6.out.mono B6.out.size)
         have BV2:Hid (Below wr.heap.size wr V2):=BV1.out.trans (B12.out.mono BV1.out.size)
         refine (KN2.out V2 BV2.out).mono ?_
         rintro e w7 ⟨⟨u7,rfl,a7,c7,rfl,ho7⟩,b7⟩
         have B7:=Qaa b7
         clear b7 ho7
         obtain ⟨X1,X3,HRA,hX1,HST,HX3,HLC⟩:=Qec w7 MC.zero (kk:Int) (tt:Int) a7 nd.length c7
         have hX1s:=hX1
         obtain ⟨zx3,r0,r1,r2,f0,f1,f2⟩:=HX3.out
         go_wp2_with (first | (refine Qah _ HRA.out ?_; rw [hX1s] at *) | (refine Qam _ _ (E (U ⟨w7.heap.size,0,I⟩)) (.agg zM) (by rfl) (by rfl) HST.out ?_))
         generalize ((X3.setCell ⟨w7.heap.size+1,0,I⟩ (V Z (kk:Int))).setCell ⟨w7.heap.size+1,1,I⟩ (V Z (tt:Int))).setCell ⟨w7.heap.size+1,2,I⟩ (J a7 nd.length c7)=V3 at *
         clear HRA hX1 hX1s HST HX3 zx3 r0 r1 r2 f0 f1 f2
         have B23:Hid (Below V2.heap.size V2 V3):=B7.out.trans (HLC.out.bel.mono B7.out.size)
         have B13:Hid (Below V1.heap.size V1 V3):=B12.out.trans (B23.out.mono B12.out.size)
         have BW3:Hid (Below w.heap.size w V3):=BWV.out.trans (B13.out.mono BWV.out.size)
         refine (HANS.out V3 BW3.out).mono ?_
         rintro e w8 ⟨rfl,b8⟩
         have B8:=Qaa b8
         clear b8
         have HLB8:=Qaa ((HLB.out.later B13.out).later B8.out)
         have HLC8:=Qaa (HLC.out.later B8.out)
         have B28:Hid (Below V2.heap.size V2 w8):=B23.out.trans (B8.out.mono B23.out.size)
         have HX8:Hid (w8.heap[w6.heap.size]?=U (K #[V Z (kk:Int),V Z (tt:Int),J a6 nd.length c6] 38 (0,0))):=by show _=_; rw [B28.out.block _ (Array.getElem?_eq_some_iff.1 HX6.out).1]; exact HX6.out
         have KS:=Qaa (Qkc (kk:Int) (tt:Int) a5 a6 c5 c6 nd w8 (by omega) (HR5.out w8 HLB8.out.bel) (HR6.out w8 (BX6.out.trans (B28.out.mono BX6.out.size))))
         have g0:w8.cell? ⟨w5.heap.size+1,0,I⟩=U (V Z (kk:Int)):=Qai HLB8.out.bN 0 _ rfl
         have g1:w8.cell? ⟨w5.heap.size+1,1,I⟩=U (V Z (tt:Int)):=Qai HLB8.out.bN 1 _ rfl
         have g2:w8.cell? ⟨w5.heap.size+1,2,I⟩=U (J a5 nd.length c5):=Qai HLB8.out.bN 2 _ rfl
         have k0:w8.cell? ⟨w6.heap.size,0,I⟩=U (V Z (kk:Int)):=Qai HX8.out 0 _ rfl
         have k1:w8.cell? ⟨w6.heap.size,1,I⟩=U (V Z (tt:Int)):=Qai HX8.out 1 _ rfl
         have k2:w8.cell? ⟨w6.heap.size,2,I⟩=U (J a6 nd.length c6):=Qai HX8.out 2 _ rfl
         go_wp2_with fail
         refine KS.out.mono ?_
         rintro e w9 ⟨rfl,b9⟩
         have B9:=Qaa b9
         clear b9
         have m0':w9.cell? ⟨w5.heap.size,0,I⟩=U (V Z 0):=Qai (HLB8.out.later B9.out).bM 0 _ rfl
         have m1':w9.cell? ⟨w7.heap.size,0,I⟩=U (V Z 0):=Qai (HLC8.out.later B9.out).bM 0 _ rfl
         have BW9:Hid (Below w.heap.size w w9):=BW3.out.trans ((B8.out.trans (B9.out.mono B8.out.size)).mono BW3.out.size)
         clear g0 g1 g2 k0 k1 k2
         go_wp2_with fail
         go_ret
         exact ⟨rfl,BW9.out⟩
       ·as_aux_lemma =>
         have KN:=Qaa (Quy HC3.out hpl hbl HS.out hw)
         have HWT:=Qaa hw
         clear hw
         go_wp2_with fail
         refine KN.out.mono ?_
         rintro e w5 ⟨rfl,b5⟩
         have B5:=Qaa b5
         clear b5
         obtain ⟨X1,X3,HRA,hX1,HST,HX3,HLB⟩:=Qec w5 MC.zero 0 0 I 0 0
         have hX1s:=hX1
         obtain ⟨zx3,r0,r1,r2,f0,f1,f2⟩:=HX3.out
         go_wp2_with (first | (refine Qah _ HRA.out ?_; rw [hX1s] at *) | (refine Qam _ _ (E (U ⟨w5.heap.size,0,I⟩)) (.agg zM) (by rfl) (by rfl) HST.out ?_))
         generalize ((X3.setCell ⟨w5.heap.size+1,0,I⟩ (V Z 0)).setCell ⟨w5.heap.size+1,1,I⟩ (V Z 0)).setCell ⟨w5.heap.size+1,2,I⟩ (J I 0 0)=V1 at *
         clear HRA hX1 hX1s HST HX3 zx3 r0 r1 r2 f0 f1 f2
         have HC5:=Qaa ((HC3.out.later B5.out).later HLB.out.bel)
         refine (Qs9 HC5.out hpl).mono ?_
         rintro e w6 ⟨rfl,rfl⟩
         go_wp2_with fail
         exact ⟨⟨p2,q3,k+1,ar3,cr3,hq3,hp2n,by omega,rfl,rfl,by go_num,HC5,HE2,fun _=>HWT.out⟩,by simp [intOf]; omega⟩
       ·skip
        have hzf:z≤fd:=by rw [Qc9 hpl,← hfd] at hz; exact hz
        have hqz:q3+z≤p2:=by omega
        have hz4:=Qui hh
        have hzl:((bs.drop q3).take z).length=z:=by rw [List.length_take,Y]; omega
        have KN:=Qaa (Qw3 HC3.out (X _) hpl hbl HS.out HA.out hh hz0 (by omega))
        have KH:=Qaa (fun (W:World) (hb:Below w.heap.size w W)=>Qhk ar3 cr3 ((bs.drop q3).take (p2 - q3)) W (by rw [Qc9 hpl]; omega) (by rw [Qc9 hpl]; have:=HC3.out.cap; omega) ((Qe8 HC3.out.rd _).below hb))
        rw [Qc9 hpl,hh,← hfd] at KH
        unfold Qu0 Qby at KH
        simp only [List.length_nil] at KH
        have KR:=Qaa (fun (W:World) (hb:Below w.heap.size w W)=>Qvf ar3 cr3 z ((bs.drop q3).take z) W hzl (by omega) (by omega) ((Qe8 HC3.out.rd _).below hb))
        have HCR:=Qaa HC3.out.rd
        obtain ⟨hP,hnb,hnl⟩:=Qqg (bs:=(bs.drop q3).take z) (fun x hx=>HC3.out.rd.2 x (List.mem_of_mem_take hx)) (by rw [hzl]; omega)
        have HP:=Qaa hP
        unfold Qza at KR
        generalize Qcx ((bs.drop q3).take z)=r at *
        obtain ⟨pm,kc,kt,nd⟩:=r
        simp only at KN KR HP hnb hnl
        have ez:((z:Int) == 0)=false:=by simp; omega
        have ez2:¬ z=0:=hz0
        have gz:decide ((fd:Int) < (z:Int))=false:=decide_eq_false (by omega)
        have zc:(z:Int)≤(cr3:Int):=by omega
        have z0:(0:Int)≤(z:Int):=Int.natCast_nonneg _
        have zn:(z:Int)≤((n - q3:Nat):Int):=by omega
        clear hfd hz hP
        go_wp2_with fail
        refine KN.out.mono ?_
        rintro e w5 ⟨C,v9,rfl,HRD,HST9,BW5⟩
        obtain ⟨B9,_,_,_,hm1,a5,c5,rfl,hd1⟩:=HRD.out
        have HM1:=Qaa hm1
        have HD1:=Qaa hd1
        have hmc1:=MC.own hm1
        clear hm1 hd1 HRD
        obtain ⟨X1,X3,HRA,hX1,HST,HX3,HLB⟩:=Qec w5 hmc1 (kc:Int) (kt:Int) a5 nd.length c5
        have hX1s:=hX1
        obtain ⟨zx3,r0,r1,r2,f0,f1,f2⟩:=HX3.out
        go_wp2_with (first | (refine Qah _ HRA.out ?_; rw [hX1s] at *) | (refine Qam _ _ (E (U ⟨w5.heap.size,0,I⟩)) (.agg C) (by rfl) (by rfl) HST.out ?_))
        generalize ((X3.setCell ⟨w5.heap.size+1,0,I⟩ (V Z (kc:Int))).setCell ⟨w5.heap.size+1,1,I⟩ (V Z (kt:Int))).setCell ⟨w5.heap.size+1,2,I⟩ (J a5 nd.length c5)=V1 at *
        clear HRA hX1 hX1s HST HX3 zx3 r0 r1 r2 f0 f1 f2
        have BWV:Hid (Below w.heap.size w V1):=BW5.out.trans (HLB.out.bel.mono BW5.out.size)
        refine (KH.out V1 BWV.out).mono ?_
        rintro e w6 ⟨⟨u6,rfl,a6,c6,rfl,_⟩,b6⟩
        have B6:=Qaa b6
        clear b6
        have BX6:Hid (Below w6.heap.size w6 (w6.alloc (K #[V Z 0,V Z 0,J a6 0 c6] 38))):=(Below.refl _ _).alloc (X _) _
        go_wp2_with fail
        generalize (w6.alloc (K #[V Z 0,V Z 0,J a6 0 c6] 38))=V2 at *
        have B12:Hid (Below V1.heap.size V1 V2):=B6.out.trans (BX6.out.mono B6.out.size)
        have BW2:Hid (Below w.heap.size w V2):=BWV.out.trans (B12.out.mono BWV.out.size)
        refine (KR.out V2 BW2.out).mono ?_
        rintro e w7 ⟨⟨C2,a7,c7,rfl,hm2,hd2⟩,b7⟩
        have B7:=Qaa b7
        have HM2:=Qaa hm2
        have HD2:=Qaa hd2
        have hmc2:=MC.own hm2
        clear b7 hm2 hd2
        obtain ⟨X1,X3,HRA,hX1,HST,HX3,HLC⟩:=Qec w7 hmc2 (kc:Int) (kt:Int) a7 nd.length c7
        have hX1s:=hX1
        obtain ⟨zx3,r0,r1,r2,f0,f1,f2⟩:=HX3.out
        go_wp2_with (first | (refine Qah _ HRA.out ?_; rw [hX1s] at *) | (refine Qam _ _ (E (U ⟨w7.heap.size,0,I⟩)) (.agg C2) (by rfl) (by rfl) HST.out ?_))
        generalize ((X3.setCell ⟨w7.heap.size+1,0,I⟩ (V Z (kc:Int))).setCell ⟨w7.heap.size+1,1,I⟩ (V Z (kt:Int))).setCell ⟨w7.heap.size+1,2,I⟩ (J a7 nd.length c7)=V3 at *
        clear HRA hX1 hX1s HST HX3 zx3 r0 r1 r2 f0 f1 f2
        have B23:Hid (Below V2.heap.size V2 V3):=B7.out.trans (HLC.out.bel.mono B7.out.size)
        have B13:Hid (Below V1.heap.size V1 V3):=B12.out.trans (B23.out.mono B12.out.size)
        have HLB3:=Qaa (HLB.out.later B13.out)
        have HL1:Hid ((Instr.loadAt 40 (E (U ⟨w5.heap.size,0,I⟩))).run D V3=.ok (.agg C) V3):=Qgc (Qai HLB3.out.bM) hmc1
        have HL2:Hid ((Instr.loadAt 40 (E (U ⟨w7.heap.size,0,I⟩))).run D V3=.ok (.agg C2) V3):=Qgc (Qai HLC.out.bM) hmc2
        have KM:=Qaa (Qoy HP.out (HM1.out.later HLB3.out.bel) (HM2.out.later HLC.out.bel))
        clear hmc1 hmc2
        go_wp2_with (first | (refine Qbq _ (E (U ⟨w5.heap.size,0,I⟩)) (.agg C) (by rfl) HL1.out ?_) | (refine Qbq _ (E (U ⟨w7.heap.size,0,I⟩)) (.agg C2) (by rfl) HL2.out ?_))
        with_reducible refine KM.out.mono ?_
        rintro e w8 ⟨rfl,b8⟩
        have B8:=Qaa b8
        clear b8 HL1 HL2
        have HLB8:=Qaa (HLB3.out.later B8.out)
        have HLC8:=Qaa (HLC.out.later B8.out)
        have KS:=Qaa (Qkc (kc:Int) (kt:Int) a5 a7 c5 c7 nd w8 (by omega) ((Qjx hnb hnl HD1.out).below HLB8.out.bel) ((Qjx hnb hnl HD2.out).below HLC8.out.bel))
        have g0:w8.cell? ⟨w5.heap.size+1,0,I⟩=U (V Z (kc:Int)):=Qai HLB8.out.bN 0 _ rfl
        have g1:w8.cell? ⟨w5.heap.size+1,1,I⟩=U (V Z (kt:Int)):=Qai HLB8.out.bN 1 _ rfl
        have g2:w8.cell? ⟨w5.heap.size+1,2,I⟩=U (J a5 nd.length c5):=Qai HLB8.out.bN 2 _ rfl
        have k0:w8.cell? ⟨w7.heap.size+1,0,I⟩=U (V Z (kc:Int)):=Qai HLC8.out.bN 0 _ rfl
        have k1:w8.cell? ⟨w7.heap.size+1,1,I⟩=U (V Z (kt:Int)):=Qai HLC8.out.bN 1 _ rfl
        have k2:w8.cell? ⟨w7.heap.size+1,2,I⟩=U (J a7 nd.length c7):=Qai HLC8.out.bN 2 _ rfl
        go_wp2_with fail
        refine KS.out.mono ?_
        rintro e w9 ⟨rfl,b9⟩
        have B9':=Qaa b9
        clear b9 g0 g1 g2 k0 k1 k2
        have HLC9:=Qaa (HLC8.out.later B9'.out)
        have B59:Hid (Below w5.heap.size w5 w9):=(HLB8.out.later B9'.out).bel
        have k0:w9.cell? ⟨w7.heap.size+1,0,I⟩=U (V Z (kc:Int)):=Qai HLC9.out.bN 0 _ rfl
        obtain ⟨g3,o3,rfl,_⟩:=HCR.out.1.2 (by rw [Y]; omega)
        have BW9:Hid (Below w.heap.size w w9):=BW5.out.trans (B59.out.mono BW5.out.size)
        have hcap3:=HC3.out.cap
        rw [HN.out] at hcap3
        go_upto_region 25 with fail
        go_cut [7] from 76 to 167 (fun v wq=>(∃ (ar:Option Addr) (cr:Nat),v=J ar (n - (q3+z)) cr∧Hid (BRd w ar (bs.drop (q3+z))∧n - (q3+z)≤cr))∧wq=w9)
        case first =>
         as_aux_lemma =>
          by_cases hcz:cr3 - z=0
          ·have hnz:n - q3 - z=0:=by omega
           go_wp2_with fail
           go_meet
           exact ⟨⟨_,_,by rw [show n - (q3+z)=0 by omega],by rw [List.drop_of_length_le (by rw [HN.out]; omega)]; exact Qjr w _,by omega⟩,rfl⟩
          ·go_wp2_with fail
           go_meet
           have hbd:BRd w (U ⟨g3,o3+z,I⟩) (bs.drop (q3+z)):=by
            have:=Qds (k:=z) HCR.out (by rw [Y]; omega)
            rwa [List.drop_drop] at this
           exact ⟨⟨_,_,by rw [Nat.sub_sub],hbd,by omega⟩,rfl⟩
        case rest =>
         obtain ⟨⟨ar4,cr4,rfl,HR4⟩,rfl⟩:=hcut
         by_cases hkz:kc=0
         ·as_aux_lemma =>
           subst hkz
           have HC4:Hid (Qp3 w wc w.heap.size bs p2 (q3+z) ar4 cr4):=by
            obtain ⟨v',a',c',y1,y2,y3,y4⟩:=HST9.out
            exact ⟨BW9.out,⟨v',_,_,y1.below B59.out,y3.later B59.out,y4⟩,HR4.out.1,by rw [HN.out]; exact HR4.out.2⟩
           go_wp2_with fail
           exact ⟨⟨q3+z,ar4,cr4,by omega,rfl,HC4⟩,by show n - (q3+z) < n - q3; omega⟩
         ·as_aux_lemma =>
           have hkn:((kc:Int) != 0)=true:=by simpa using hkz
           obtain ⟨v',a',c',y1,y2,y3,y4⟩:=HST9.out
           have KW:=Qaa (Qr4 w.heap.size nd.length c' v' a' nd (kc:Int) (kt:Int) wc (y1.below B59.out) (by simpa using hkz) rfl (by omega) (y2.below B59.out))
           clear y1 y2 y3 y4
           go_wp2_with fail
           refine KW.out.mono ?_
           rintro e w10 ⟨a10,c10,rfl,ho10,b10⟩
           have HR10:Hid (∀ W,Below w10.heap.size w10 W→BRd W a10 nd):=fun W hb=>(Qfq ho10 rfl (by omega) hnb).below hb
           have B10:=Qaa b10
           clear ho10 b10
           obtain ⟨X1,X3,HRA,hX1,HST,HX3,HLD⟩:=Qec w10 MC.zero (kc:Int) (kt:Int) a10 nd.length c10
           have hX1s:=hX1
           obtain ⟨zx3,r0,r1,r2,f0,f1,f2⟩:=HX3.out
           go_wp2_with (first | (refine Qah _ HRA.out ?_; rw [hX1s] at *) | (refine Qam _ _ (E (U ⟨w10.heap.size,0,I⟩)) (.agg zM) (by rfl) (by rfl) HST.out ?_))
           generalize ((X3.setCell ⟨w10.heap.size+1,0,I⟩ (V Z (kc:Int))).setCell ⟨w10.heap.size+1,1,I⟩ (V Z (kt:Int))).setCell ⟨w10.heap.size+1,2,I⟩ (J a10 nd.length c10)=V4 at *
           clear HRA hX1 hX1s HST HX3 zx3 r0 r1 r2 f0 f1 f2
           have B94:Hid (Below wc.heap.size wc V4):=B10.out.trans (HLD.out.bel.mono B10.out.size)
           have BW4:Hid (Below w.heap.size w V4):=BW9.out.trans (B94.out.mono BW9.out.size)
           refine (HANS.out V4 BW4.out).mono ?_
           rintro e w11 ⟨rfl,b11⟩
           have B11:=Qaa b11
           clear b11
           have HLD1:=Qaa (HLD.out.later B11.out)
           have HLC1:=Qaa ((HLC9.out.later B94.out).later B11.out)
           have KS2:=Qaa (Qkc (kc:Int) (kt:Int) a10 a7 c10 c7 nd w11 (by omega) (HR10.out w11 HLD1.out.bel) ((Qjx hnb hnl HD2.out).below HLC1.out.bel))
           have g0:w11.cell? ⟨w10.heap.size+1,0,I⟩=U (V Z (kc:Int)):=Qai HLD1.out.bN 0 _ rfl
           have g1:w11.cell? ⟨w10.heap.size+1,1,I⟩=U (V Z (kt:Int)):=Qai HLD1.out.bN 1 _ rfl
           have g2:w11.cell? ⟨w10.heap.size+1,2,I⟩=U (J a10 nd.length c10):=Qai HLD1.out.bN 2 _ rfl
           have l0:w11.cell? ⟨w7.heap.size+1,0,I⟩=U (V Z (kc:Int)):=Qai HLC1.out.bN 0 _ rfl
           have l1:w11.cell? ⟨w7.heap.size+1,1,I⟩=U (V Z (kt:Int)):=Qai HLC1.out.bN 1 _ rfl
           have l2:w11.cell? ⟨w7.heap.size+1,2,I⟩=U (J a7 nd.length c7):=Qai HLC1.out.bN 2 _ rfl
           go_wp2_with fail
           refine KS2.out.mono ?_
           rintro e w12 ⟨rfl,b12⟩
           have BWE:Hid (Below w.heap.size w w12):=BW4.out.trans ((B11.out.trans (b12.mono B11.out.size)).mono BW4.out.size)
           clear b12 g0 g1 g2 l0 l1 l2
           go_wp2_with fail
           go_ret
           exact ⟨rfl,BWE.out⟩
  ·obtain rfl:k=cn+1:=by omega
   obtain rfl:p=n:=HE.out rfl
   obtain ⟨z,hh,hz⟩:=HW.out (by omega)
   have hdl:(bs.drop q).length=p - q:=by rw [Y,HN.out]
   have hfull:(bs.drop q).take (p - q)=bs.drop q:=List.take_of_length_le (by rw [hdl]; exact X _)
   rw [hfull] at hh hz
   rw [hdl] at hz
   have hcap:=HC.out.cap
   rw [HN.out] at hcap
   have KH:=Qhk ar cr (bs.drop q) wr (by rw [hdl]; omega) (by rw [hdl]; exact hcap) (HC.out.rd.below HC.out.bel)
   rw [hdl,hh] at KH
   unfold Qu0 Qby at KH
   simp only [List.length_nil] at KH
   have HKH:=Qaa KH
   have HBW:=Qaa HC.out.bel
   have kd:decide (((cn+1:Nat):Int)≤(cn:Int))=false:=decide_eq_false (by omega)
   have kd2:decide ((cn:Int)+1≤(cn:Int))=false:=decide_eq_false (by omega)
   clear KH hfull hh hcap hdl
   go_wp2_with fail
   refine HKH.out.mono ?_
   rintro e w6 ⟨⟨u6,rfl,a6,c6,rfl,_⟩,b6⟩
   have B6:=Qaa b6
   clear b6
   have HX6:Hid ((w6.alloc (K #[V Z 0,V Z 0,J a6 0 c6] 38)).heap[w6.heap.size]?=U (K #[V Z 0,V Z 0,J a6 0 c6] 38 (0,0))):=heap_alloc_new w6 _
   have BX6:Hid (Below w6.heap.size w6 (w6.alloc (K #[V Z 0,V Z 0,J a6 0 c6] 38))):=(Below.refl _ _).alloc (X _) _
   go_wp2_with fail
   generalize (w6.alloc (K #[V Z 0,V Z 0,J a6 0 c6] 38))=V2 at *
   have BW2:Hid (Below w.heap.size w V2):=HBW.out.trans ((B6.out.trans (BX6.out.mono B6.out.size)).mono HBW.out.size)
   refine (HANS.out V2 BW2.out).mono ?_
   rintro e w8 ⟨rfl,b8⟩
   have k0:w8.cell? ⟨w6.heap.size,0,I⟩=U (V Z 0):=by
    have h9:w8.heap[w6.heap.size]?=U (K #[V Z 0,V Z 0,J a6 0 c6] 38 (0,0)):=by rw [b8.block _ (Array.getElem?_eq_some_iff.1 HX6.out).1]; exact HX6.out
    exact Qai h9 0 _ rfl
   have BW8:Hid (Below w.heap.size w w8):=BW2.out.trans (b8.mono BW2.out.size)
   clear b8
   by_cases hz0:z=0
   ·subst hz0
    go_wp2_with fail
    go_ret
    exact ⟨rfl,BW8.out⟩
   ·have ez:((z:Int) == 0)=false:=by simp; omega
    have gz:((p - q:Nat):Int) < (z:Int):=by omega
    clear hz
    go_wp2_with fail
    go_ret
    exact ⟨rfl,BW8.out⟩
end
theorem Quw (a0 a1:Option Addr)(c0 c1 n0 n1:Nat)(w:World)(hS:Qdb w)(hn:8000 < n0∨300 < n1) :
  Calls D 4 #[J a0 n0 c0,J a1 n1 c1] w fun e w'=>e=.returned (.bool true)∧Below w.heap.size w w':=by
 have HANS:=Qaa (Qiz w hS)
 clear hS
 cases h0:decide ((8000:Int) < (n0:Int)) with
 | true =>
  go_enter Tryz.func4,Tryz.ntmps4
  go_wp2_with fail
  refine HANS.out.mono ?_
  rintro e w1 ⟨rfl,b1⟩
  go_wp2
  go_ret
  exact ⟨rfl,b1⟩
 | false =>
  have h1:decide ((300:Int) < (n1:Int))=true:=by
   have:=of_decide_eq_false h0
   exact decide_eq_true (by omega)
  go_enter Tryz.func4,Tryz.ntmps4
  go_wp2_with fail
  refine HANS.out.mono ?_
  rintro e w1 ⟨rfl,b1⟩
  go_wp2
  go_ret
  exact ⟨rfl,b1⟩
theorem Qjq (a0:Option Addr)(c0:Nat)(bs:List Nat)(a1:Option Addr)(c1:Nat)(ks:List Nat)(w:World)(hS:Qdb w)(hA:Qfa w)(h0:bs.length≤c0)(hb:BRd w a0 bs)(hk:BRd w a1 ks) :
  Calls D 4 #[J a0 bs.length c0,J a1 ks.length c1] w fun e w'=>e=.returned (.bool true)∧Below w.heap.size w w':=by
 by_cases hn:8000 < bs.length∨300 < ks.length
 ·exact Quw a0 a1 c0 c1 _ _ w hS hn
 ·exact Qyy a0 a1 c0 c1 _ _ bs ks w hS hA rfl rfl (by omega) (by omega) h0 hb hk
