import Derived.Test.YtdojlejehjbliaaGreatDoorPA12
import Derived.Test.YtdojlejehjbliaaGreatDoorPA13
import Derived.Test.YtdojlejehjbliaaGreatDoorPA27
namespace Go.Proofs.YtdojlejehjbliaaGreatDoor
set_option maxHeartbeats 4000000
open _root_.Go.Value renaming slice → I,int → Z
open _root_.Option renaming none → J,some → V
open _root_.Go.Proofs.Tryz renaming prog → Q
open _root_.Go.IntKind renaming i64 → Y
open _root_.Go.Ending renaming returned → X
open Go.RowKit
set_option maxRecDepth 100000
structure PM where
 k:Nat
 oa:Int
 oh:Nat
 oi:Nat
 oc:Cp
 gl:List (Nat×Nat)
 nl:List (Nat×Nat)
 at_:At
 nc:Nat
 ns:Nat
 nd:List Nat
def at0:At:=⟨0,[],0,0,0,[],[]⟩
def pm0:PM:=⟨0,0,0,0,cp0,[],[],at0,0,0,[]⟩
def pmAlive:PM:=⟨4,0,0,0,cp0,[],[],at0,0,0,[]⟩
def Qgy (a:Int)(h i:Nat)(c:Cp):PM:=⟨1,a,h,i,c,[],[],at0,0,0,[]⟩
def Qko (G N:List (Nat×Nat))(r:Option At):PM:=⟨2,0,0,0,cp0,G,N,r.getD at0,0,0,[]⟩
def Qi2 (c s:Nat)(d:List Nat):PM:=⟨3,0,0,0,cp0,[],[],at0,c,s,d⟩
def Qci (w:World)(B:Nat)(C:Array Value)(p:PM):Prop:=∃ v A u a cap,C=#[Z Y (p.k:Int)]++Qce p.oa p.oh p.oi p.oc++Qct v A u++#[Z Y (p.nc:Int),Z Y (p.ns:Int),I a p.nd.length cap]∧w.ownsRow B 94 2 v p.gl.length (pcells p.gl)∧w.ownsRow B 94 2 u p.nl.length (pcells p.nl)∧Qha w B A p.at_∧w.ownsRow B 5 1 (I a p.nd.length cap) p.nd.length (Qal p.nd)
theorem Qfh (w:World)(B:Nat):Qha w B zA7 at0:=⟨J,0,J,0,J,0,rfl,Qa7.nil _ _,Qbm _ _ _ _,Qbr.nil _ _⟩
theorem Qci.zero (w:World)(B:Nat):Qci w B zM pm0:=⟨I J 0 0,zA7,I J 0 0,J,0,rfl,Qbm _ _ _ _,Qbm _ _ _ _,Qfh _ _,Qbm _ _ _ _⟩
theorem Qci.alive (w:World)(B:Nat):Qci w B (Qbt 4 0 0 (I J 0 0)) pmAlive:=⟨I J 0 0,zA7,I J 0 0,J,0,rfl,Qbm _ _ _ _,Qbm _ _ _ _,Qfh _ _,Qbm _ _ _ _⟩
theorem Qci.note {w:World}{B:Nat}{c s:Nat}{d:List Nat}{a:Option Addr}{cap:Nat} (h:w.ownsRow B 5 1 (I a d.length cap) d.length (Qal d)):Qci w B (Qbt 3 (c:Int) (s:Int) (I a d.length cap)) (Qi2 c s d):=⟨I J 0 0,zA7,I J 0 0,a,cap,by simp [Qbt,Qce,Qct,zA7,cp0,Qi2],Qbm _ _ _ _,Qbm _ _ _ _,Qfh _ _,h⟩
theorem Qci.openm (w:World)(B:Nat)(a:Int)(h i:Nat)(c:Cp):Qci w B (openMsg 1 (Qce a h i c)) (Qgy a h i c):=⟨I J 0 0,zA7,I J 0 0,J,0,by simp [openMsg,Qce,Qct,zA7,Qgy],Qbm _ _ _ _,Qbm _ _ _ _,Qfh _ _,Qbm _ _ _ _⟩
theorem Qss (k:Int)(U:Array Value):updMsg k U=#[Z Y k]++Qce 0 0 0 cp0++U++#[Z Y 0,Z Y 0,I J 0 0]:=rfl
theorem Qci.upd {w:World}{B:Nat}{G N:List (Nat×Nat)}{v u:Value}{A:Array Value}{r:Option At} (h:Qoe B G N v u A r w):Qci w B (updMsg 2 (Qct v A u)) (Qko G N r):=by
 obtain ⟨h1,h2,h3⟩:=h
 refine ⟨v,A,u,J,0,Qss _ _,h1,h2,?_,Qbm _ _ _ _⟩
 cases r with
 | none=>simp only at h3; subst h3; exact Qfh _ _
 | some b=>exact h3
def Qcx (bs:List Nat):PM×Nat×Nat×List Nat :=
 if (Qa6 bs).2.1≠0 then (pm0,(Qa6 bs).2.1,(Qa6 bs).2.2.1,(Qa6 bs).2.2.2)
 else if (Qa6 bs).1=0∨(Qa6 bs).1≠bs.length then (pm0,1,2,[])
 else if bs.getD 18 0=1 then (match Qgu (bs.drop 19) with
  | .inl (k,s,d)=>(pm0,k,s,d)
  | .inr (a,h,i,c)=>(Qgy a h i c,0,0,[]))
 else if bs.getD 18 0=2 then (match upR (bs.drop 19) with
  | .inl (k,s,d)=>(pm0,k,s,d)
  | .inr (G,N,r)=>(Qko G N r,0,0,[]))
 else if bs.getD 18 0=3 then (Qi2 (bs.getD 19 0) (bs.getD 20 0) (bs.drop 21),0,0,[])
 else (pmAlive,0,0,[])
theorem Qnk {bs:List Nat}{k s:Nat}{d:List Nat} (h:Qa6 bs=(0,k,s,d)) (hk:k≠0):Qcx bs=(pm0,k,s,d):=by unfold Qcx; rw [h]; simp only; rw [if_pos hk]
theorem Qgs {bs:List Nat}{m:Nat} (h:Qa6 bs=(m,0,0,[])) (hm:m=0∨m≠bs.length):Qcx bs=(pm0,1,2,[]):=by
 unfold Qcx; rw [h]; simp only; rw [if_neg (fun h=>h rfl),if_pos hm]
theorem Qla {bs:List Nat}(h:Qa6 bs=(bs.length,0,0,[]))(h0:bs.length≠0)(hk:bs.getD 18 0=1):Qcx bs=(match Qgu (bs.drop 19) with
  | .inl (k,s,d)=>(pm0,k,s,d)
  | .inr (a,h,i,c)=>(Qgy a h i c,0,0,[])):=by
 unfold Qcx; rw [h]; simp only; rw [if_neg (fun h=>h rfl),if_neg (by omega),if_pos hk]
theorem Qqi {bs:List Nat}(h:Qa6 bs=(bs.length,0,0,[]))(h0:bs.length≠0)(hk:bs.getD 18 0=2):Qcx bs=(match upR (bs.drop 19) with
  | .inl (k,s,d)=>(pm0,k,s,d)
  | .inr (G,N,r)=>(Qko G N r,0,0,[])):=by
 unfold Qcx; rw [h]; simp only; rw [if_neg (fun h=>h rfl),if_neg (by omega),if_neg (by omega),if_pos hk]
theorem Qk2 {bs:List Nat}(h:Qa6 bs=(bs.length,0,0,[]))(h0:bs.length≠0)(hk:bs.getD 18 0=3):Qcx bs=(Qi2 (bs.getD 19 0) (bs.getD 20 0) (bs.drop 21),0,0,[]):=by
 unfold Qcx; rw [h]; simp only; rw [if_neg (fun h=>h rfl),if_neg (by omega),if_neg (by omega),if_neg (by omega),if_pos hk]
theorem Qkd {bs:List Nat}(h:Qa6 bs=(bs.length,0,0,[]))(h0:bs.length≠0)(hk:bs.getD 18 0=4):Qcx bs=(pmAlive,0,0,[]):=by
 unfold Qcx; rw [h]; simp only; rw [if_neg (fun h=>h rfl),if_neg (by omega),if_neg (by omega),if_neg (by omega),if_neg (by omega)]
theorem Qjn (bs:List Nat):(∃ k s d,Qa6 bs=(0,k,s,d)∧k≠0)∨(bs.length < 19∧Qa6 bs=(0,0,0,[]))∨(19≤bs.length∧Qa6 bs=(Qbg bs,0,0,[])∧Qbg bs≤4096∧19≤Qbg bs∧(bs.getD 18 0=1∨bs.getD 18 0=2∨bs.getD 18 0=3∨bs.getD 18 0=4)∧Qdn (bs.getD 18 0)≤Qbg bs∧Qbg bs≤Qei (bs.getD 18 0)):=by
 by_cases h:bs.length < 19
 ·exact .inr (.inl ⟨h,Qf1 h⟩)
 ·by_cases h1:bs.take 16≠List.replicate 16 255
  ·exact .inl ⟨1,1,[],Qh9 h h1,by decide⟩
  ·by_cases h2:Qbg bs < 19∨4096 < Qbg bs
   ·exact .inl ⟨1,2,_,Qih h h1 h2,by decide⟩
   ·by_cases h3:Qdo bs < 1∨4 < Qdo bs
    ·exact .inl ⟨1,3,_,Qim h h1 h2 h3,by decide⟩
    ·by_cases h4:Qbg bs < Qdn (Qdo bs)∨Qei (Qdo bs) < Qbg bs
     ·exact .inl ⟨1,2,_,Qij h h1 h2 h3 h4,by decide⟩
     ·unfold Qdo at h3 h4
      exact .inr (.inr ⟨by omega,Qh5 h h1 h2 (by unfold Qdo; exact h3) (by unfold Qdo; exact h4),by omega,by omega,by omega,by omega,by omega⟩)
theorem Qwj {bs:List Nat}{k s:Nat}{d:List Nat} (h:upR bs=.inl (k,s,d)):k≠0:=by
 unfold upR at h
 repeat' split at h
 all_goals first | (simp only [Sum.inl.injEq,Prod.mk.injEq] at h; omega) | (cases h; done)
def Qza (w w':World)(e:Ending)(r:PM×Nat×Nat×List Nat):Prop:=∃ C a c,e=X (.tuple #[.agg C,.agg #[Z Y (r.2.1:Int),Z Y (r.2.2.1:Int),I a r.2.2.2.length c]])∧Qci w' w.heap.size C r.1∧(r.2.2.2≠[]→w'.ownsRow w.heap.size 5 1 (I a r.2.2.2.length c) r.2.2.2.length (Qal r.2.2.2))
theorem Qcg {w w':World}{e:Ending}{k s:Nat}{d:List Nat} (h:Qdd w w' e k s d):Qza w w' e (pm0,k,s,d):=by
 obtain ⟨u,rfl,a,c,rfl,ho⟩:=h
 exact ⟨zM,a,c,rfl,Qci.zero _ _,fun _=>ho⟩
theorem Qoz (a:Option Addr)(cp n:Nat)(bs:List Nat)(w:World)(hn:bs.length=n)(hl:n≤5000)(hcap:n≤cp)(h:BRd w a bs)(hS:Qdb w)(hA:Qfa w) :
  Calls Q 7 #[I a n cp] w fun e w'=>Qza w w' e (Qcx bs)∧Below w.heap.size w w':=by
 rcases Qjn bs with ⟨k,s,d,hh,hk⟩ | ⟨h19,hh⟩ | ⟨h19,hh,hm,hm2,hk,hl1,hl2⟩
 ·rw [Qnk hh hk]
  exact (Qy1 a cp n bs w hn (by omega) (by omega) h hS k s d hh hk).mono fun e w' h=>⟨Qcg h.1,h.2⟩
 ·rw [Qgs hh (.inl rfl)]
  exact (Qqw a cp n bs w hn (by omega) (by omega) h hS 0 hh (by omega) (.inl (by omega))).mono fun e w' h=>⟨Qcg h.1,h.2⟩
 ·by_cases hz:Qbg bs=bs.length
  ·obtain ⟨g,o,rfl,_⟩:=h.1.2 (by omega)
   rw [hz] at hh
   have hh':Qa6 bs=(n,0,0,[]):=by rw [hh,hn]
   rcases hk with hk | hk | hk | hk
   ·rw [Qla hh (by omega) hk]
    rw [hk] at hl1
    have hl3:29≤Qbg bs:=hl1
    cases ho:Qgu (bs.drop 19) with
    | inl x =>
     obtain ⟨k,s,d⟩:=x
     have:=Qiu g o n cp bs w hn (by omega) hl hcap h hS hh' hk
     rw [ho] at this
     exact this.mono fun e w' h=>⟨Qcg h.1,h.2⟩
    | inr x =>
     obtain ⟨A,hh,ii,cc⟩:=x
     have:=Qiu g o n cp bs w hn (by omega) hl hcap h hS hh' hk
     rw [ho] at this
     refine this.mono fun e w' h=>⟨?_,h.2⟩
     have he:=h.1
     simp only [Jb0] at he
     exact ⟨_,J,0,he,Qci.openm _ _ _ _ _ _,fun x=>absurd rfl x⟩
   ·rw [Qqi hh (by omega) hk]
    rw [hk] at hl1
    have hl3:23≤Qbg bs:=hl1
    cases ho:upR (bs.drop 19) with
    | inl x =>
     obtain ⟨k,s,d⟩:=x
     have hk0:k≠0:=Qwj ho
     exact (Qsd g o n cp bs w hn (by omega) hl hcap h hS hA hh' hk k s d hk0 ho).mono fun e w' h=>⟨Qcg h.1,h.2⟩
    | inr x =>
     obtain ⟨G,N,r⟩:=x
     refine (Qpi g o n cp bs w hn (by omega) hl hcap h hS hA hh' hk G N r ho).mono ?_
     rintro e w' ⟨⟨v,u,A,rfl,hx⟩,hb⟩
     exact ⟨⟨_,J,0,rfl,Qci.upd hx,fun x=>absurd rfl x⟩,hb⟩
   ·rw [Qk2 hh (by omega) hk]
    rw [hk] at hl1
    have hl3:21≤Qbg bs:=hl1
    refine (Qxl g o n cp bs w hn (by omega) hl hcap h hS hh' hk).mono ?_
    rintro e w' ⟨⟨a8,c8,a9,c9,rfl,ho⟩,hb⟩
    have hd:(bs.drop 21).length=n - 19 - 2:=by rw [List.length_drop]; omega
    rw [← hd] at ho ⊢
    exact ⟨⟨_,a9,c9,rfl,Qci.note ho,fun x=>absurd rfl x⟩,hb⟩
   ·rw [Qkd hh (by omega) hk]
    rw [hk] at hl2
    have hl3:Qbg bs≤19:=hl2
    have hn19:n=19:=by omega
    subst hn19
    refine (Qnp g o cp bs w hn hcap h hS hh' hk).mono ?_
    rintro e w' ⟨a9,c9,rfl,hb⟩
    exact ⟨⟨_,a9,c9,rfl,Qci.alive _ _,fun x=>absurd rfl x⟩,hb⟩
  ·rw [Qgs hh (.inr hz)]
   exact (Qqw a cp n bs w hn (by omega) (by omega) h hS _ hh (by omega) (.inr (by omega))).mono fun e w' h=>⟨Qcg h.1,h.2⟩
def Qea (f:Nat→Nat)(j k:Nat):Nat→Nat:=fun q=>if q < k then f (j+q) else 0
theorem Qnd (f:Nat→Nat)(j k:Nat):∀ d,Qca (Qea f j k) 0 (k+d)=Qca f j k
 | 0=>Qf0 _ _ _ _ _ (fun q hq=>by show Qea f j k (0+q)=_; rw [Nat.zero_add]; unfold Qea; rw [if_pos (by omega)])
 | d+1=>by
  show Qca (Qea f j k) 0 (k+d)+Qea f j k (0+(k+d)) * _=_
  rw [Qnd f j k d]
  have:Qea f j k (0+(k+d))=0:=by unfold Qea; rw [if_neg (by omega)]
  rw [this,Nat.zero_mul,Nat.add_zero]
theorem Qsu (f:Nat→Nat)(j k:Nat)(hk:k≤4):num (Qea f j k)=Qca f j k:=by
 rw [Qt2,show 4=k+(4 - k) from by omega,Qnd]
def Qip (f:Nat→Nat)(j k:Nat):List Nat:=(List.range k).map fun q=>f (j+q)
theorem Qk9 (f:Nat→Nat)(j k q:Nat)(h:q < k):(Qal (Qip f j k))[q]?=V (Z .u8 (f (j+q):Int)):=by simp [Qal,Qip,h]
theorem Qyf (f:Nat→Nat)(j s q:Nat)(hq:q < 4):(([]++Qal (Qip f j s))++[Value.int .u8 0,Z .u8 0,Z .u8 0,Z .u8 0])[q]?=V (Z .u8 (Qea f j s q:Int)):=by
 have hl:(Qal (Qip f j s)).length=s:=by rw [Qbd]; simp [Qip]
 rw [List.nil_append]
 unfold Qea
 by_cases h:q < s
 ·rw [List.getElem?_append_left (by omega),Qk9 _ _ _ _ h,if_pos h]
 ·rw [List.getElem?_append_right (by omega),hl,if_neg h]
  have:q - s=0∨q - s=1∨q - s=2∨q - s=3:=by omega
  rcases this with e | e | e | e <;> rw [e] <;> rfl
theorem Qnf (wr:World)(ad:Addr)(s cp j:Nat)(f:Nat→Nat)(hs:s≤1000)(hc:∀ q,q < s→wr.cell? (ad.add q)=V (Z .u8 (f (j+q):Int))) :
  ∃ v2 w2 g3 cap3 w3,(Builtin.append_ #[22,22] 22 #[I (V ⟨wr.heap.size,0,J⟩) 0 0,I (V ad) s cp]).run Q (wr.alloc (.cells #[] 5))=.ok v2 w2 ∧
   (Builtin.append_ #[22,22] 22 #[v2,I (V ⟨w2.heap.size,0,J⟩) 4 4]).run Q (w2.alloc (.cells #[Z .u8 0,Z .u8 0,Z .u8 0,Z .u8 0] 5))=.ok (I (V ⟨g3,0,J⟩) (s+4) cap3) w3 ∧
   (∀ q,q < 4→w3.cell? ⟨g3,0+q,J⟩=V (Z .u8 (Qea f j s q:Int)))∧Below wr.heap.size wr w3:=by
 have hown:=World.ownsRow_lit (base:=wr.heap.size) (e:=5) (size:=1) wr #[] 0 (Nat.le_refl _) (by unfold maxLen; omega) rfl
 obtain ⟨v2,w2,hrun2,hown2,hb2⟩:=Qtg elemU8 hown (by simp) ad s cp (Qal (Qip f j s)) (by rw [Qbd]; simp [Qip]) (fun q u hu=>by
  have hq:q < s:=by
   have:=(List.getElem?_eq_some_iff.1 hu).1
   rw [Qbd] at this
   simpa [Qip] using this
  rw [Qk9 _ _ _ _ hq] at hu
  rw [World.cell?_alloc_lt _ _ _ (World.block_lt_of_cell? wr _ (hc q hq)),hc q hq,hu]) (Qfk _) (by omega)
 have hb2':Below wr.heap.size wr w2:=((Below.refl _ _).alloc (Nat.le_refl _) _).trans hb2
 obtain ⟨v3,w3,hrun3,hown3,hb3⟩:=Qig elemU8 hown2 hb2'.size 4 [Z .u8 0,Z .u8 0,Z .u8 0,Z .u8 0] rfl (by simp [Value.oneCell']) (by omega) w2.heap.size rfl
 rw [Nat.zero_add] at hown3
 obtain ⟨g3,cap3,rfl,_,_⟩:=hown3.form (by omega)
 exact ⟨v2,w2,g3,cap3,w3,hrun2,hrun3,fun q hq=>by rw [Nat.zero_add,hown3.cellAt q (by omega)]; exact Qyf f j s q hq,hb2'.trans hb3⟩
theorem Qzb (b off cap len i s:Nat)(f:Nat→Nat)(wr:World)(hs:s≤1000)(hlc:len≤cap)(ho:i+1+s≤len)(hc:∀ j,j < len→wr.cell? ⟨b,off+j,J⟩=V (Z .u8 (f j:Int))) :
  ∃ v2 w2 g3 cap3 w3,(Builtin.append_ #[22,22] 22 #[I (V ⟨wr.heap.size,0,J⟩) 0 0,I (if cap=i+1 then V ⟨b,off,J⟩ else V ⟨b,off+(i+1),J⟩) (i+1+s - (i+1)) (cap - (i+1))]).run Q (wr.alloc (.cells #[] 5))=.ok v2 w2 ∧
   (Builtin.append_ #[22,22] 22 #[v2,I (V ⟨w2.heap.size,0,J⟩) 4 4]).run Q (w2.alloc (.cells #[Z .u8 0,Z .u8 0,Z .u8 0,Z .u8 0] 5))=.ok (I (V ⟨g3,0,J⟩) (s+4) cap3) w3 ∧
   (∀ q,q < 4→w3.cell? ⟨g3,0+q,J⟩=V (Z .u8 (Qea f (i+1) s q:Int)))∧Below wr.heap.size wr w3:=by
 rw [show i+1+s - (i+1)=s from by omega]
 by_cases h:cap=i+1
 ·rw [if_pos h]
  exact Qnf wr ⟨b,off,J⟩ s (cap - (i+1)) (i+1) f hs (fun q hq=>absurd hq (by omega))
 ·rw [if_neg h]
  exact Qnf wr ⟨b,off+(i+1),J⟩ s (cap - (i+1)) (i+1) f hs (fun q hq=>by rw [Addr.add_mid,Nat.add_assoc]; exact hc (i+1+q) (by omega))
theorem Qq6 (b off len cap:Nat)(f:Nat→Nat)(w:World)(hl:len≤100000)(hlc:len≤cap)(hf:∀ j,j < len→f j < 256)(hcell:∀ j,j < len→w.cell? ⟨b,off+j,J⟩=V (Z .u8 (f j:Int))) :
  Calls Q 26 #[I (V ⟨b,off,J⟩) len cap] w fun e w'=>Qm2 w w' (Qch f len 0 []) e∧Below w.heap.size w w':=by
 have HC:=Qaa hcell
 have HF:=Qaa hf
 clear hcell hf
 go_enter Tryz.func26,Tryz.ntmps26
 go_wp2
 go_loopw [4,5] (fun v s wq=>∃ (i:Nat) (acc:List (Nat×Nat)),s=Z Y (i:Int)∧i≤len∧Hid (wq.ownsRow w.heap.size 94 2 v acc.length (pcells acc))∧Hid (Below w.heap.size w wq)∧Hid (Qch f len 0 []=Qch f len i acc)∧acc.length≤i) (fun _ s _=>len - (intOf s).toNat)
 case atStart=>exact ⟨0,[],rfl,Nat.zero_le _,Qbm _ _ _ _,Below.refl _ _,rfl,Nat.le_refl _⟩
 case round =>
  obtain ⟨i,acc,rfl,hi,HO,HB,HE,hal⟩:=hrel
  by_cases hlt:i < len
  ·have hcw:Hid (∀ j,j < len→wr.cell? ⟨b,off+j,J⟩=V (Z .u8 (f j:Int))):=fun j hj=>by
    rw [(Qae.of_below HB.out (fun _=>False)).cell _ (World.block_lt_of_cell? w _ (HC.out j hj)) (fun h=>h)]
    exact HC.out j hj
   have hci:=hcw.out i hlt
   have hfi:=HF.out i hlt
   have hi0:(0:Int)≤(i:Int):=Int.natCast_nonneg _
   have hi1:(i:Int) < (len:Int):=by omega
   cases hk:Qsb f len i with
   | false =>
    have HN:Hid (Qch f len 0 []=J):=by show Qch f len 0 []=J; rw [HE.out,Qka hlt hk]
    have hok:=of_decide_eq_false hk
    clear hk
    unfold Qgq at hok
    generalize f i=n at *
    by_cases h32:32 < n
    ·have i32:(32:Int) < (n:Int):=by omega
     clear hok h32
     go_wp2
     go_ret2
     exact ⟨by rw [HN.out]; rfl,HB.out⟩
    ·have d32:decide ((32:Int) < (n:Int))=false:=decide_eq_false (by omega)
     have hs:(len:Int) < (i:Int)+1+((n:Int)+7) / 8:=by omega
     clear hok h32
     go_wp2
     go_ret2
     exact ⟨by rw [HN.out]; rfl,HB.out⟩
   | true =>
    obtain ⟨ho1,ho2⟩:=of_decide_eq_true hk
    have HE1:Hid (Qch f len 0 []=Qch f len (i+1+Qgq (f i)) (acc++[Qf3 f i])):=by show Qch f len 0 []=_; rw [HE.out,Qj3 hlt hk]
    have HIT:Hid (Qf3 f i=(Qd2 (num (Qea f (i+1) (Qgq (f i)))) (f i),f i)):=by show Qf3 f i=_; rw [Qsu _ _ _ (Qpn _ ho1)]; rfl
    clear hk HE
    have hs4:=Qpn _ ho1
    have hse:((f i:Int)+7) / 8=((Qgq (f i):Nat):Int):=by unfold Qgq; omega
    have HPF:Hid (∀ q,q < 4→Qea f (i+1) (Qgq (f i)) q < 256):=fun q _=>by
     unfold Qea
     split
     ·exact HF.out _ (by omega)
     ·omega
    generalize hit:Qf3 f i=it at *
    clear hit
    generalize hn:f i=n at *
    clear hn
    generalize hs:Qgq n=s at *
    clear hs
    have hx:num (Qea f (i+1) s) < 4294967296:=by
     rw [Qsu _ _ _ hs4]
     exact Qd4 f (i+1) s hs4 (fun q hq=>HF.out _ (by omega))
    have d32:decide ((32:Int) < (n:Int))=false:=decide_eq_false (by omega)
    have ds:decide ((len:Int) < (i:Int)+1+(s:Int))=false:=decide_eq_false (by omega)
    have b1:(i:Int)+1+(s:Int)≤(cap:Int):=by omega
    have HX:=Qaa hx
    clear hx
    obtain ⟨v2,w2,g3,cap3,w3,hR2,hR3,hN3,hg3⟩:=Qzb b off cap len i s f wr (by omega) hlc ho2 hcw.out
    have HR2:=Qaa hR2
    have HR3:=Qaa hR3
    have HN3:=Qaa hN3
    have HO3:=Qaa (Qaq HO.out hg3)
    have HB3:Hid (Below w.heap.size w w3):=HB.out.trans (hg3.mono HB.out.size)
    clear hg3 hR2 hR3 hN3 HO HB
    go_wp2_with (first
     | ((with_reducible refine Qdw _ _ 22 (I (V ⟨wr.heap.size,0,J⟩) 0 0) (I (if cap=i+1 then V ⟨b,off,J⟩ else V ⟨b,off+(i+1),J⟩) (i+1+s - (i+1)) (cap - (i+1))) _ ?_ ?_ HR2.out ?_); (· rfl); (· rfl); (generalize (if cap=i+1 then V (⟨b,off,J⟩:Addr) else V ⟨b,off+(i+1),J⟩)=q42))
     | ((with_reducible refine Qdw _ _ 22 v2 (I (V ⟨w2.heap.size,0,J⟩) 4 4) _ ?_ ?_ HR3.out ?_); (· rfl); (· rfl)))
    refine (Qf5 g3 0 (s+4) cap3 _ w3 (by omega) HPF.out HN3.out).mono ?_
    rintro e w4 ⟨rfl,k4,rfl⟩
    have HB4:=Qaa (Qaj HB3.out k4)
    have HO4:=Qaa (Qaq HO3.out (Qaj (Below.refl _ _) k4))
    generalize w3.drewN k4=w4 at *
    clear HB3 HO3 HN3 HR2 HR3
    generalize num (Qea f (i+1) s)=x at *
    have hx:=HX.out
    go_wp2_with fail
    refine (Qvp x n _ HX.out ho1).mono ?_
    rintro e w5 ⟨rfl,hb5⟩
    unfold pfx
    have HB5:Hid (Below w.heap.size w w5):=HB4.out.trans (hb5.mono HB4.out.size)
    have HO5:=Qaa (Qaq HO4.out hb5)
    clear hb5 HB4 HO4
    generalize Qd2 x n=A at *
    obtain ⟨v6,w6,hrun6,hown6,hb6⟩:=Qig elemPfx (w:=w5.alloc (.cells #[Z .u32 (A:Int),Z Y (n:Int)] 94)) (HO5.out.alloc _) (by simp; have:=HB5.out.size; omega) 1 [Z .u32 (A:Int),Z Y (n:Int)] rfl (by simp [Value.oneCell']) (by omega) (w5.heap.size+1) (by simp)
    have HR6:=Qaa hrun6
    have HO6:Hid (w6.ownsRow w.heap.size 94 2 v6 (acc++[(A,n)]).length (pcells (acc++[(A,n)]))):=by
     show w6.ownsRow _ _ _ _ _ _
     rw [Qj2,List.length_append]
     exact hown6
    have HB6:Hid (Below w.heap.size w w6):=(HB5.out.alloc HB5.out.size _).trans hb6
    clear hrun6 hown6 hb6 HO5 HB5
    go_wp2_with ((with_reducible refine Qdw _ _ 29 _ (I (V ⟨w5.heap.size+1,0,J⟩) 1 1) _ ?_ ?_ HR6.out ?_); (· rfl); (· rfl))
    exact ⟨⟨i+1+s,acc++[(A,n)],by go_num,ho2,HO6,HB6,by rw [← HIT.out]; exact HE1,by simp; omega⟩,by simp [intOf]; omega⟩
  ·have HN:Hid (Qch f len 0 []=V acc):=by show Qch f len 0 []=V acc; rw [HE.out,Qfm hlt]
   go_wp2
   go_ret2
   exact ⟨by rw [HN.out]; exact ⟨_,rfl,HO.out⟩,HB.out⟩
theorem Qli (ps:List (Nat×Nat)):∀ (i:Nat) (p:Nat×Nat),ps[i]?=V p→(pcells ps)[i * 2]?=V (Z .u32 (p.1:Int))∧(pcells ps)[i * 2+1]?=V (Z Y (p.2:Int)):=by
 induction ps with
 | nil=>intro i p h; simp at h
 | cons a l ih =>
  intro i p h
  cases i with
  | zero=>simp at h; subst h; exact ⟨rfl,rfl⟩
  | succ i =>
   have:=ih i p (by simpa using h)
   rw [show (i+1) * 2=i * 2+1+1 from by omega]
   simpa [pcells] using this
theorem Qq8 (g1 g2 n c1 c2:Nat)(A:Nat→Nat)(N:Nat→Nat)(w:World)(hn:n≤100000)
  (h1:∀ i,i < n→w.cell? ⟨g1,0+i * 2,J⟩=V (Z .u32 (A i:Int))∧w.cell? ⟨g1,0+i * 2+1,J⟩=V (Z Y (N i:Int)))
  (h2:∀ i,i < n→w.cell? ⟨g2,0+i * 2,J⟩=V (Z .u32 (A i:Int))∧w.cell? ⟨g2,0+i * 2+1,J⟩=V (Z Y (N i:Int))) :
  Calls Q 29 #[I (V ⟨g1,0,J⟩) n c1,I (V ⟨g2,0,J⟩) n c2] w fun e w'=>e=X (.bool true)∧∃ m,w'=w.drewN m:=by
 have H1:=Qaa h1
 have H2:=Qaa h2
 clear h1 h2
 go_enter Tryz.func29,Tryz.ntmps29
 go_wp2
 go_loopw [5] (fun i wq=>∃ k m:Nat,k≤n∧i=Z Y k∧Hid (wq=w.drewN m)) (fun i _=>n - (intOf i).toNat)
 case atStart=>exact ⟨0,0,Nat.zero_le _,rfl,rfl⟩
 case round =>
  obtain ⟨k,m,hk,rfl,HW⟩:=hrel
  by_cases hlt:k < n
  ·have a0:wr.cell? ⟨g1,k * 2,J⟩=V (Z .u32 (A k:Int)):=by rw [HW.out,Qay]; have:=(H1.out k hlt).1; rwa [Nat.zero_add] at this
   have a1:wr.cell? ⟨g1,k * 2+1,J⟩=V (Z Y (N k:Int)):=by rw [HW.out,Qay]; have:=(H1.out k hlt).2; rwa [Nat.zero_add] at this
   have b0:wr.cell? ⟨g2,k * 2,J⟩=V (Z .u32 (A k:Int)):=by rw [HW.out,Qay]; have:=(H2.out k hlt).1; rwa [Nat.zero_add] at this
   have b1:wr.cell? ⟨g2,k * 2+1,J⟩=V (Z Y (N k:Int)):=by rw [HW.out,Qay]; have:=(H2.out k hlt).2; rwa [Nat.zero_add] at this
   have hk0:(0:Int)≤(k:Int):=Int.natCast_nonneg _
   have hk1:(k:Int) < (n:Int):=by omega
   generalize A k=x at *
   generalize N k=y at *
   go_wp2_with fail
   go_quiet (fail)
   go_wp2
   exact ⟨⟨k+1,m+nq,by omega,by go_num,show wr.drewN nq=_ by rw [HW.out,Qc1]⟩,by simp [intOf]; omega⟩
  ·go_wp2
   go_ret
   exact ⟨rfl,m,HW.out⟩
theorem Qpe (a1 a2:Option Addr)(c1 c2:Nat)(w:World) :
  Calls Q 29 #[I a1 0 c1,I a2 0 c2] w fun e w'=>e=X (.bool true)∧∃ m,w'=w.drewN m:=by
 go_enter Tryz.func29,Tryz.ntmps29
 go_wp2
 go_loopw [5] (fun i wq=>i=Z Y 0∧wq=w) (fun i _=>0 - (intOf i).toNat)
 case atStart=>exact ⟨rfl,rfl⟩
 case round =>
  obtain ⟨rfl,rfl⟩:=hrel
  go_wp2
  go_ret
  exact ⟨rfl,0,rfl⟩
theorem Qnw {w:World}{B1 B2:Nat}{v1 v2:Value}{ps:List (Nat×Nat)} (h1:w.ownsRow B1 94 2 v1 ps.length (pcells ps)) (h2:w.ownsRow B2 94 2 v2 ps.length (pcells ps)) (hl:ps.length≤100000) :
  Calls Q 29 #[v1,v2] w fun e w'=>e=X (.bool true)∧∃ m,w'=w.drewN m:=by
 by_cases h0:ps.length=0
 ·obtain ⟨a1,c1,rfl⟩:=Qbs h1
  obtain ⟨a2,c2,rfl⟩:=Qbs h2
  rw [h0]
  exact Qpe a1 a2 c1 c2 w
 ·obtain ⟨g1,c1,rfl,_,_⟩:=h1.form (by omega)
  obtain ⟨g2,c2,rfl,_,_⟩:=h2.form (by omega)
  refine Qq8 g1 g2 ps.length c1 c2 (fun i=>(ps.getD i (0,0)).1) (fun i=>(ps.getD i (0,0)).2) w hl (fun i hi=>?_) (fun i hi=>?_)
  ·have e:ps[i]?=V (ps.getD i (0,0)):=by simp [List.getD_eq_getElem?_getD,hi]
   obtain ⟨x,y⟩:=Qli ps i _ e
   rw [Nat.zero_add,h1.cellAt (i * 2) (by omega),h1.cellAt (i * 2+1) (by omega)]
   exact ⟨x,y⟩
  ·have e:ps[i]?=V (ps.getD i (0,0)):=by simp [List.getD_eq_getElem?_getD,hi]
   obtain ⟨x,y⟩:=Qli ps i _ e
   rw [Nat.zero_add,h2.cellAt (i * 2) (by omega),h2.cellAt (i * 2+1) (by omega)]
   exact ⟨x,y⟩
def eqP (p q:List (Bool×List Int)):Bool:=decide (p=q)
theorem Qyd {p q:List (Bool×List Int)}(h:p≠q):eqP p q=false:=decide_eq_false h
theorem Qmx (a1 a2:Option Addr)(n1 n2 c1 c2:Nat)(w:World)(h:n1≠n2):Calls Q 49 #[I a1 n1 c1,I a2 n2 c2] w fun e w'=>e=X (.bool false)∧∃ m,w'=w.drewN m:=by
 have e0:((n1:Int) != (n2:Int))=true:=by simp; omega
 clear h
 go_enter Tryz.func49,Tryz.ntmps49
 go_wp2
 go_ret
 exact ⟨rfl,0,rfl⟩
theorem Qkv (a1 a2:Option Addr)(c1 c2:Nat)(w:World):Calls Q 49 #[I a1 0 c1,I a2 0 c2] w fun e w'=>e=X (.bool true)∧∃ m,w'=w.drewN m:=by
 go_enter Tryz.func49,Tryz.ntmps49
 go_wp2
 go_loopw [5] (fun i wq=>i=Z Y 0∧wq=w) (fun i _=>0 - (intOf i).toNat)
 case atStart=>exact ⟨rfl,rfl⟩
 case round =>
  obtain ⟨rfl,rfl⟩:=hrel
  go_wp2
  go_ret
  exact ⟨rfl,0,rfl⟩
theorem Qml (g1 o1 g2 o2 n c1 c2:Nat)(p q:List (Bool×List Int))(w:World)(hp:p.length=n)(hq:q.length=n)(hs:n+sumP p≤100000)(hs2:sumP q≤100000)
  (h1:∀ i s,p[i]?=V s→w.cell? ⟨g1,o1+i * 2,J⟩=V (.bool s.1)∧∃ a' c',w.cell? ⟨g1,o1+i * 2+1,J⟩=V (I a' s.2.length c')∧IRd w a' s.2)
  (h2:∀ i s,q[i]?=V s→w.cell? ⟨g2,o2+i * 2,J⟩=V (.bool s.1)∧∃ a' c',w.cell? ⟨g2,o2+i * 2+1,J⟩=V (I a' s.2.length c')∧IRd w a' s.2) :
  Calls Q 49 #[I (V ⟨g1,o1,J⟩) n c1,I (V ⟨g2,o2,J⟩) n c2] w fun e w'=>e=X (.bool (eqP p q))∧∃ m,w'=w.drewN m:=by
 have H1:=Qaa h1
 have H2:=Qaa h2
 have HP:=Qaa hp
 have HQ:=Qaa hq
 clear h1 h2 hp hq
 go_enter Tryz.func49,Tryz.ntmps49
 go_wp2
 go_loopw [5] (fun i wq=>∃ k m:Nat,k≤n∧i=Z Y k∧Hid (wq=w.drewN m)∧Hid (p.take k=q.take k)) (fun i _=>n - (intOf i).toNat)
 case atStart=>exact ⟨0,0,Nat.zero_le _,rfl,rfl,rfl⟩
 case round =>
  obtain ⟨k,m,hk,rfl,HW,HT⟩:=hrel
  by_cases hlt:k < n
  ·have hkp:k < p.length:=by rw [HP.out]; exact hlt
   have hkq:k < q.length:=by rw [HQ.out]; exact hlt
   obtain ⟨x0,a1,d1,x1,r1⟩:=H1.out k p[k] (List.getElem?_eq_getElem hkp)
   obtain ⟨y0,a2,d2,y1,r2⟩:=H2.out k q[k] (List.getElem?_eq_getElem hkq)
   have u0:wr.cell? ⟨g1,o1+k * 2,J⟩=V (.bool (p[k]).1):=by rw [HW.out,Qay]; exact x0
   have u1:wr.cell? ⟨g1,o1+k * 2+1,J⟩=V (I a1 (p[k]).2.length d1):=by rw [HW.out,Qay]; exact x1
   have v0:wr.cell? ⟨g2,o2+k * 2,J⟩=V (.bool (q[k]).1):=by rw [HW.out,Qay]; exact y0
   have v1:wr.cell? ⟨g2,o2+k * 2+1,J⟩=V (I a2 (q[k]).2.length d2):=by rw [HW.out,Qay]; exact y1
   have X1:=Qaa x1
   have Y1:=Qaa y1
   have R1:=Qaa r1
   have R2:=Qaa r2
   clear x0 x1 y0 y1 r1 r2
   have HNE:Hid (p[k]≠q[k]→eqP p q=false):=fun h=>Qyd (fun e=>h (by subst e; rfl))
   have HTK:Hid (p[k]=q[k]→p.take (k+1)=q.take (k+1)):=fun h=>by rw [List.take_succ_eq_append_getElem hkp,List.take_succ_eq_append_getElem hkq,HT.out,h]
   have hl1:(p[k]).2.length≤100000:=by have:=Qhe p _ (List.getElem_mem hkp); omega
   have hl2:(q[k]).2.length≤100000:=by have:=Qhe q _ (List.getElem_mem hkq); omega
   generalize p[k]=s at *
   generalize q[k]=t at *
   obtain ⟨b1,zs⟩:=s
   obtain ⟨b2,ys⟩:=t
   simp only at u0 u1 v0 v1 X1 Y1 R1 R2 hl1 hl2
   have hk0:(0:Int)≤(k:Int):=Int.natCast_nonneg _
   have hk1:(k:Int) < (n:Int):=by omega
   by_cases hb:b1=b2
   ·subst hb
    have eb:(b1 != b1)=false:=by simp
    by_cases hl:zs.length=ys.length
    ·have el:((zs.length:Int) != (ys.length:Int))=false:=by rw [hl]; simp
     generalize hll:ys.length=l at *
     have HLL:=Qaa hll
     clear hll
     have HL:=Qaa hl
     have hl9:l≤100000:=hl2
     rw [hl] at u1 el X1 hl1
     clear hl
     go_wp2_with fail
     go_quiet (fail)
     go_wp2
     go_loopw [6] (fun i wq=>∃ j m2:Nat,j≤l∧i=Z Y j∧Hid (wq=w.drewN m2)∧Hid (zs.take j=ys.take j)) (fun i _=>l - (intOf i).toNat)
     case atStart=>exact ⟨0,m+nq,Nat.zero_le _,rfl,show wr.drewN nq=_ by rw [HW.out,Qc1],rfl⟩
     case round =>
      obtain ⟨j,m2,hj,rfl,HW2,HJ⟩:=hrel
      have u1:wr.cell? ⟨g1,o1+k * 2+1,J⟩=V (I a1 l d1):=by rw [HW2.out,Qay]; exact X1.out
      have v1:wr.cell? ⟨g2,o2+k * 2+1,J⟩=V (I a2 l d2):=by rw [HW2.out,Qay]; exact Y1.out
      by_cases hlj:j < l
      ·have hjz:j < zs.length:=by rw [HL.out]; exact hlj
       have hjy:j < ys.length:=by rw [HLL.out]; exact hlj
       obtain ⟨f1,e1,rfl,hz1⟩:=R1.out (by omega)
       obtain ⟨f2,e2,rfl,hz2⟩:=R2.out (by omega)
       have cz:wr.cell? ⟨f1,e1+j,J⟩=V (Z Y zs[j]):=by rw [HW2.out,Qay]; exact hz1 j _ (List.getElem?_eq_getElem hjz)
       have cy:wr.cell? ⟨f2,e2+j,J⟩=V (Z Y ys[j]):=by rw [HW2.out,Qay]; exact hz2 j _ (List.getElem?_eq_getElem hjy)
       have HJN:Hid (zs[j]≠ys[j]→eqP p q=false):=fun h=>HNE.out (fun e=>h (by injection e with _ e3; subst e3; rfl))
       have HJT:Hid (zs[j]=ys[j]→zs.take (j+1)=ys.take (j+1)):=fun h=>by rw [List.take_succ_eq_append_getElem hjz,List.take_succ_eq_append_getElem hjy,HJ.out,h]
       clear hz1 hz2
       generalize zs[j]=z at *
       generalize ys[j]=y at *
       have hj0:(0:Int)≤(j:Int):=Int.natCast_nonneg _
       have hj1:(j:Int) < (l:Int):=by omega
       by_cases hzy:z=y
       ·have HJ2:=Qaa (HJT.out hzy)
        have ez:(z != y)=false:=by rw [hzy]; simp
        clear hzy
        go_wp2_with fail
        go_quiet (fail)
        go_wp2
        exact ⟨⟨j+1,m2+nq,by omega,by go_num,show wr.drewN nq=_ by rw [HW2.out,Qc1],HJ2⟩,by simp [intOf]; omega⟩
       ·have HG:=Qaa (HJN.out hzy)
        have ez:(z != y)=true:=by simpa using hzy
        clear hzy
        go_wp2_with fail
        go_quiet (fail)
        go_wp2
        go_ret
        exact ⟨Qa8 HG.out.symm,m2+nq,show wr.drewN nq=_ by rw [HW2.out,Qc1]⟩
      ·have HT2:Hid (p.take (k+1)=q.take (k+1)):=HTK.out (by
        have:=HJ.out
        rw [List.take_of_length_le (by rw [HL.out]; omega),List.take_of_length_le (by rw [HLL.out]; omega)] at this
        rw [this])
       go_wp2
       exact ⟨⟨k+1,m2,by omega,by go_num,HW2,HT2⟩,by simp [intOf]; omega⟩
    ·have HG:Hid (eqP p q=false):=HNE.out (fun e=>hl (by injection e with _ e2; rw [e2]))
     have el:((zs.length:Int) != (ys.length:Int))=true:=by simp; omega
     clear hl
     go_wp2_with fail
     go_quiet (fail)
     go_wp2
     go_ret
     exact ⟨Qa8 HG.out.symm,m+nq,show wr.drewN nq=_ by rw [HW.out,Qc1]⟩
   ·have HG:Hid (eqP p q=false):=HNE.out (fun e=>hb (by injection e))
    have eb:(b1 != b2)=true:=by simpa using hb
    go_wp2_with fail
    go_quiet (fail)
    go_wp2
    go_ret
    exact ⟨Qa8 HG.out.symm,m+nq,show wr.drewN nq=_ by rw [HW.out,Qc1]⟩
  ·have HG:Hid (eqP p q=true):=by
    show eqP p q=true
    have:=HT.out
    rw [List.take_of_length_le (by rw [HP.out]; omega),List.take_of_length_le (by rw [HQ.out]; omega)] at this
    exact decide_eq_true this
   go_wp2
   go_ret
   exact ⟨Qa8 HG.out.symm,m,HW.out⟩
theorem Qm7 (a1 a2:Option Addr)(c1 c2:Nat)(p q:List (Bool×List Int))(w:World)(hs:p.length+sumP p≤100000)(hs2:sumP q≤100000)(h1:Qmt w a1 p)(h2:Qmt w a2 q) :
  Calls Q 49 #[I a1 p.length c1,I a2 q.length c2] w fun e w'=>e=X (.bool (eqP p q))∧∃ m,w'=w.drewN m:=by
 by_cases hl:p.length=q.length
 ·by_cases h0:p=[]
  ·subst h0
   have hq:q=[]:=List.length_eq_zero_iff.1 hl.symm
   subst hq
   exact Qkv a1 a2 c1 c2 w
  ·obtain ⟨b1,o1,rfl,hc1⟩:=h1.cells (List.length_pos_iff.2 h0)
   obtain ⟨b2,o2,rfl,hc2⟩:=h2.cells (by have:=List.length_pos_iff.2 h0; omega)
   rw [← hl]
   exact Qml b1 o1 b2 o2 p.length c1 c2 p q w rfl hl.symm hs hs2 hc1 hc2
 ·rw [Qyd (fun e=>hl (by rw [e]))]
  exact Qmx a1 a2 _ _ c1 c2 w hl
