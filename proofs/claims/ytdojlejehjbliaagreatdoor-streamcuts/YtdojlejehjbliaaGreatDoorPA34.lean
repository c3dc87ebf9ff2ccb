import Derived.Test.YtdojlejehjbliaaGreatDoorPA33
namespace Go.Proofs.YtdojlejehjbliaaGreatDoor
set_option maxHeartbeats 4000000
open _root_.Go.Value renaming slice → I,int → J,bool → Y
open _root_.Go.IntKind renaming i64 → V
open _root_.Option renaming some → Z,none → Q
open _root_.Go.Obj renaming cells → U
open _root_.List renaming length_drop → E
open _root_.Go.Proofs.Tryz renaming prog → D
open Go.RowKit
set_option maxRecDepth 100000
structure Mid (N:Nat) (a:At) (seen rest:List Nat):Prop where
 origin:0≤a.origin∧a.origin≤2
 path:2∈seen→Qd3 a.path=true
 plen:a.path.length+sumP a.path≤N
 hop:3∈seen→Qk0 a.next=true
 next:a.next < 4294967296
 med : -1≤a.med∧a.med≤4294967295
 pref : -1≤a.pref∧a.pref≤4294967295
 comms:a.comms.length≤32
 none:8 ∉ seen→a.comms=[]
 raws:∀ r∈a.raws,Jaf r=true∧(∃ t:Nat,t∈seen∧r.2.1=(t:Int))∧∀ x∈r.2.2,x < 256
 up:a.raws.Pairwise fun x y=>x.2.1 < y.2.1
 size:sumR a.raws+3 * a.raws.length+rest.length≤N
theorem Qqq (r:Int×Int×List Nat):∀ l:List (Int×Int×List Nat),sumR (Qf7 r l)=sumR l+r.2.2.length
 | []=>by simp [Qf7,sumR]
 | x :: l=>by
  rw [Qf7]
  split
  ·simp only [sumR]; omega
  ·simp only [sumR,Qqq r l]; omega
theorem Qu1 {rs:List (Int×Int×List Nat)}(h:rs.Pairwise fun x y=>x.2.1 < y.2.1)(hk:∀ r∈rs,Jaf r=true):∀ n,n≤rs.length→Qqt rs n=true
 | 0,_=>rfl
 | n+1,hn=>by
  have e:∀ i (hi:i < rs.length),rs.getD i (0,0,[])=rs[i]:=fun i hi=>by rw [List.getD_eq_getElem?_getD,List.getElem?_eq_getElem hi]; rfl
  have ih:=Qu1 h hk n (by omega)
  have h2:Jaf (rs.getD n (0,0,[]))=true:=by rw [e n (by omega)]; exact hk _ (List.getElem_mem _)
  rw [Qqt,ih,h2,Bool.true_and,Bool.true_and]
  by_cases e0:n=0
  ·rw [decide_eq_true e0]; rfl
  ·have h3:Qsv rs (n - 1) < Qsv rs n:=by
    unfold Qsv
    rw [e n (by omega),e (n - 1) (by omega)]
    exact List.pairwise_iff_getElem.1 h (n - 1) n (by omega) (by omega) (by omega)
   rw [decide_eq_true h3,Bool.or_true]
section
variable {N:Nat}{a a':At}{seen rest rest2:List Nat}
theorem Mid.more (h:Mid N a seen rest)(ty:Nat)(h2:ty≠2)(h3:ty≠3)(hs:rest2.length≤rest.length):Mid N a (ty :: seen) rest2:=by
 have:=h.size
 exact ⟨h.origin,fun e=>h.path (by simpa [Ne.symm h2] using e),h.plen,fun e=>h.hop (by simpa [Ne.symm h3] using e),h.next,h.med,h.pref,h.comms,fun e=>h.none (fun e2=>e (List.mem_cons_of_mem _ e2)),fun r hr=>⟨(h.raws r hr).1,by obtain ⟨t,h1,h2⟩:=(h.raws r hr).2.1; exact ⟨t,List.mem_cons_of_mem _ h1,h2⟩,(h.raws r hr).2.2⟩,h.up,by omega⟩
theorem Mid.ins (h:Mid N a seen rest)(ty:Nat)(f:Int)(d:List Nat)(h2:ty≠2)(h3:ty≠3)(hty:ty ∉ seen)(hk:Jaf (f,(ty:Int),d)=true)(hd:∀ x∈d,x < 256)(hs:3+d.length+rest2.length≤rest.length):Mid N { a with raws:=Qf7 (f,(ty:Int),d) a.raws } (ty :: seen) rest2:=by
 have hz:=h.size
 have m:=h.more (rest2:=rest2) ty h2 h3 (by omega)
 refine ⟨m.origin,m.path,m.plen,m.hop,m.next,m.med,m.pref,m.comms,m.none,fun r hr=>?_,Qpd _ _ h.up (fun x hx e=>?_),?_⟩
 ·rcases List.mem_append.1 ((Qhq _ _).mem_iff.1 hr) with h1 | h1
  ·exact m.raws r h1
  ·obtain rfl:=List.mem_singleton.1 h1
   exact ⟨hk,⟨ty,List.mem_cons_self,rfl⟩,hd⟩
 ·obtain ⟨t,h4,h5⟩:=(h.raws x hx).2.1
  rw [h5] at e
  have e9:t=ty:=by have e8:(t:Int)=(ty:Int):=e; omega
  exact hty (e9 ▸ h4)
 ·show sumR (Qf7 _ _)+3 * (Qf7 _ _).length+_≤_
  rw [Qqq,Qjh]
  show sumR a.raws+d.length+_+_≤_
  omega
theorem Mid.step (h:Mid N a seen rest){fl ty:Nat}{d all:List Nat} (hty:ty ∉ seen) (ht:ty < 256) (hd:∀ x∈d,x < 256) (hs:3+d.length+rest2.length≤rest.length) (he:Qdz a fl ty d all=.inr a'):Mid N a' (ty :: seen) rest2:=by
 have hz:=h.size
 have hle:rest2.length≤rest.length:=by omega
 have pass:ty≠2→ty≠3→(Sum.inr a:Res)=.inr a'→Mid N a' (ty :: seen) rest2:=fun h2 h3 e=>by
  cases e
  exact h.more ty h2 h3 hle
 have bad:∀ n,(Sum.inl n:Res)=.inr a'→Mid N a' (ty :: seen) rest2:=fun n e=>by cases e
 unfold Qdz at he
 split at he
 ·rename_i hk
  unfold Qc8 at he
  split at he
  ·exact bad _ he
  split at he
  ·exact bad _ he
  rename_i hsb
  have hsb2:¬ (ty=1∧d.length≠1∨(ty=3∨ty=4∨ty=5)∧d.length≠4∨ty=6∧d.length≠0∨ty=7∧d.length≠8∨ty=8∧(d.length=0∨d.length % 4≠0)):=by
   intro e
   exact hsb (by unfold Qbz; exact decide_eq_true e)
  split at he
  ·rename_i t1
   split at he
   ·exact bad _ he
   ·cases he
    have m:=h.more (rest2:=rest2) ty (by omega) (by omega) hle
    exact ⟨⟨by show (0:Int)≤((d.getD 0 0:Nat):Int); omega,by show ((d.getD 0 0:Nat):Int)≤2; omega⟩,m.path,m.plen,m.hop,m.next,m.med,m.pref,m.comms,m.none,m.raws,m.up,m.size⟩
  split at he
  ·rename_i t2
   split at he
   ·exact bad _ he
   ·rename_i p hp
    cases he
    obtain ⟨g1,g2⟩:=Qv7 (f:=fun q=>d.getD q 0) (fun j _=>Qc4 hd j) hp
    have g3:(Ql2 p).length=d.length:=by rw [g2,Qkq]
    unfold Ql2 at g3
    rw [if_pos g1,Qkm] at g3
    have m:=h.more (rest2:=rest2) 0 (by omega) (by omega) hle
    exact ⟨h.origin,fun _=>g1,by show p.length+sumP p≤N; omega,fun e=>h.hop (by rcases List.mem_cons.1 e with e | e; omega; exact e),h.next,h.med,h.pref,h.comms,fun e=>h.none (fun e2=>e (List.mem_cons_of_mem _ e2)),fun r hr=>⟨(h.raws r hr).1,by obtain ⟨t,h1,h2⟩:=(h.raws r hr).2.1; exact ⟨t,List.mem_cons_of_mem _ h1,h2⟩,(h.raws r hr).2.2⟩,h.up,m.size⟩
  split at he
  ·rename_i t3
   split at he
   ·rename_i hop
    cases he
    have m:=h.more (rest2:=rest2) 0 (by omega) (by omega) hle
    exact ⟨h.origin,fun e=>h.path (by rcases List.mem_cons.1 e with e | e; omega; exact e),h.plen,fun _=>hop,Qg4 d hd,h.med,h.pref,h.comms,fun e=>h.none (fun e2=>e (List.mem_cons_of_mem _ e2)),fun r hr=>⟨(h.raws r hr).1,by obtain ⟨t,h1,h2⟩:=(h.raws r hr).2.1; exact ⟨t,List.mem_cons_of_mem _ h1,h2⟩,(h.raws r hr).2.2⟩,h.up,m.size⟩
   ·exact bad _ he
  split at he
  ·cases he
   have hn:=Qg4 d hd
   have m:=h.more (rest2:=rest2) ty (by omega) (by omega) hle
   exact ⟨m.origin,m.path,m.plen,m.hop,m.next,⟨by show (-1:Int)≤((Qf8 d:Nat):Int); omega,by show ((Qf8 d:Nat):Int)≤4294967295; omega⟩,m.pref,m.comms,m.none,m.raws,m.up,m.size⟩
  split at he
  ·cases he
   have hn:=Qg4 d hd
   have m:=h.more (rest2:=rest2) ty (by omega) (by omega) hle
   exact ⟨m.origin,m.path,m.plen,m.hop,m.next,m.med,⟨by show (-1:Int)≤((Qf8 d:Nat):Int); omega,by show ((Qf8 d:Nat):Int)≤4294967295; omega⟩,m.comms,m.none,m.raws,m.up,m.size⟩
  split at he
  ·rename_i t8
   split at he
   ·exact bad _ he
   ·cases he
    have m:=h.more (rest2:=rest2) ty (by omega) (by omega) hle
    have c0:=h.none (t8 ▸ hty)
    exact ⟨m.origin,m.path,m.plen,m.hop,m.next,m.med,m.pref,by show (a.comms++Qcl d).length≤32; rw [c0,List.nil_append,Qiq]; omega,fun e=>absurd (by rw [t8]; exact List.mem_cons_self) e,m.raws,m.up,m.size⟩
  ·cases he
   rcases (by omega:ty=6∨ty=7) with rfl | rfl
   ·exact h.ins 6 _ d (by omega) (by omega) hty (decide_eq_true (.inl ⟨rfl,rfl,by show d.length=0; omega⟩)) hd hs
   ·exact h.ins 7 _ d (by omega) (by omega) hty (decide_eq_true (.inr (.inl ⟨rfl,rfl,by show d.length=8; omega⟩))) hd hs
 split at he
 ·exact bad _ he
 split at he
 ·exact pass (by omega) (by omega) he
 split at he
 ·exact bad _ he
 split at he
 ·cases he
  exact h.ins ty _ d (by omega) (by omega) hty (decide_eq_true (.inr (.inr ⟨by show (8:Int) < (ty:Int); omega,by show (ty:Int)≤255; omega,rfl,by show d.length≤255; omega⟩))) hd hs
 ·exact pass (by omega) (by omega) he
theorem Mid.fin (h:Mid N a seen rest)(he:Qps a seen=.inr a'):Qv4 a'=true∧a'.next < 4294967296∧Qh2 a'≤2 * N+32∧∀ r∈a'.raws,∀ x∈r.2.2,x < 256:=by
 unfold Qps at he
 split at he
 ·cases he
 split at he
 ·cases he
 split at he
 ·cases he
 rename_i h1 h2 h3
 cases he
 have hz:=h.size
 have hp:=h.plen
 have hc:=h.comms
 refine ⟨?_,h.next,by unfold Qh2; omega,fun r hr=>(h.raws r hr).2.2⟩
 unfold Qv4 Ja1
 rw [decide_eq_true h.origin,h.path (Classical.not_not.1 h2),h.hop (Classical.not_not.1 h3),decide_eq_true h.med,decide_eq_true h.pref,decide_eq_true h.comms,Qu1 h.up (fun r hr=>(h.raws r hr).1) _ (Nat.le_refl _)]
 rfl
end
theorem Qqu {N:Nat} : ∀ (k:Nat) (rest:List Nat) (a a':At) (seen:List Nat),rest.length≤k→(∀ x∈rest,x < 256)→Mid N a seen rest→Qpp rest a seen=.inr a'→Qv4 a'=true∧a'.next < 4294967296∧Qh2 a'≤2 * N+32∧∀ r∈a'.raws,∀ x∈r.2.2,x < 256
 | 0,rest,a,a',seen,hk,_,h,he=>by
  obtain rfl:rest=[]:=List.eq_nil_of_length_eq_zero (by omega)
  exact h.fin ((Qgp a seen).symm.trans he)
 | k+1,rest,a,a',seen,hk,hb,h,he=>by
  by_cases h0:rest=[]
  ·subst h0
   exact h.fin ((Qgp a seen).symm.trans he)
  ·cases hf:Qox rest seen with
   | false=>rw [Qkg h0 hf] at he; cases he
   | true =>
    rw [Qmh h0 hf] at he
    have hf2:Qbj (rest.getD 0 0)≤rest.length∧Qbj (rest.getD 0 0)+Qbl rest≤rest.length∧rest.getD 1 0 ∉ seen:=of_decide_eq_true ((Qgo rest seen).symm.trans hf)
    obtain ⟨f1,f2,f3⟩:=hf2
    have hh:3≤Qbj (rest.getD 0 0):=by unfold Qbj; split <;> omega
    generalize hap:Qdz a (rest.getD 0 0) (rest.getD 1 0) ((rest.drop (Qbj (rest.getD 0 0))).take (Qbl rest)) (rest.take (Qbj (rest.getD 0 0)+Qbl rest))=r at he
    cases r with
    | inl n=>rw [Ql3] at he; cases he
    | inr a2 =>
     rw [Qmg] at he
     have hl:(rest.drop (Qbj (rest.getD 0 0)+Qbl rest)).length=rest.length - (Qbj (rest.getD 0 0)+Qbl rest):=E ..
     refine Qqu k _ a2 a' _ (by rw [hl]; omega) (fun x hx=>hb x (List.mem_of_mem_drop hx)) (h.step f3 (Qc4 hb 1) (fun x hx=>hb x (List.mem_of_mem_drop (List.mem_of_mem_take hx))) ?_ hap) he
     rw [hl,List.length_take,E]
     omega
theorem Qs6 {bs:List Nat}{a:At} (hb:∀ x∈bs,x < 256) (h:Qbv bs=.inr a):Qv4 a=true∧a.next < 4294967296∧Qh2 a≤2 * bs.length+32∧∀ r∈a.raws,∀ x∈r.2.2,x < 256 :=
 Qqu bs.length bs _ a [] (Nat.le_refl _) hb ⟨by decide,fun e=>by simp at e,by simp [sumP],fun e=>by simp at e,by decide,by decide,by decide,by simp,fun _=>rfl,fun r hr=>by simp at hr,List.Pairwise.nil,by simp [sumR]⟩ h
theorem Qpx {a:At}{fl ty:Nat}{d all:List Nat}{n:Nat×Nat×List Nat} (h:Qdz a fl ty d all=.inl n):n.1=3∧(n.2.2=all∨n.2.2=[]):=by
 have key:∀ (s:Nat) (l:List Nat),(Sum.inl (3,s,l):Res)=.inl n→(l=all∨l=[])→n.1=3∧(n.2.2=all∨n.2.2=[]):=fun s l e hl=>by
  cases e
  exact ⟨rfl,hl⟩
 unfold Qdz at h
 split at h
 ·exact Qir h
 split at h
 ·exact key _ _ h (.inl rfl)
 split at h
 ·cases h
 split at h
 ·exact key _ _ h (.inl rfl)
 split at h
 ·cases h
 ·cases h
theorem Qqs {a:At}{seen:List Nat}{n:Nat×Nat×List Nat} (h:Qps a seen=.inl n):n.1=3∧(∀ x∈n.2.2,x < 256)∧n.2.2.length=1:=by
 unfold Qps at h
 split at h
 ·cases h; exact ⟨rfl,by simp,rfl⟩
 split at h
 ·cases h; exact ⟨rfl,by simp,rfl⟩
 split at h
 ·cases h; exact ⟨rfl,by simp,rfl⟩
 ·cases h
theorem run_note:∀ (k:Nat)(rest:List Nat)(a:At)(seen:List Nat)(n:Nat×Nat×List Nat),rest.length≤k→(∀ x∈rest,x < 256)→Qpp rest a seen=.inl n→n.1=3∧(∀ x∈n.2.2,x < 256)∧n.2.2.length≤rest.length+1
 | 0,rest,a,seen,n,hk,_,he=>by
  obtain rfl:rest=[]:=List.eq_nil_of_length_eq_zero (by omega)
  obtain ⟨h1,h2,h3⟩:=Qqs ((Qgp a seen).symm.trans he)
  exact ⟨h1,h2,by omega⟩
 | k+1,rest,a,seen,n,hk,hb,he=>by
  by_cases h0:rest=[]
  ·subst h0
   obtain ⟨h1,h2,h3⟩:=Qqs ((Qgp a seen).symm.trans he)
   exact ⟨h1,h2,by omega⟩
  ·cases hf:Qox rest seen with
   | false =>
    rw [Qkg h0 hf] at he
    cases he
    exact ⟨rfl,by simp,by simp⟩
   | true =>
    rw [Qmh h0 hf] at he
    have hh:3≤Qbj (rest.getD 0 0):=by unfold Qbj; split <;> omega
    generalize hap:Qdz a (rest.getD 0 0) (rest.getD 1 0) ((rest.drop (Qbj (rest.getD 0 0))).take (Qbl rest)) (rest.take (Qbj (rest.getD 0 0)+Qbl rest))=r at he
    cases r with
    | inl m =>
     rw [Ql3] at he
     cases he
     obtain ⟨h1,h2⟩:=Qpx hap
     refine ⟨h1,?_,?_⟩
     ·rcases h2 with h2 | h2 <;> rw [h2]
      ·exact fun x hx=>hb x (List.mem_of_mem_take hx)
      ·simp
     ·rcases h2 with h2 | h2 <;> rw [h2]
      ·rw [List.length_take]; omega
      ·simp
    | inr a2 =>
     rw [Qmg] at he
     have hl:(rest.drop (Qbj (rest.getD 0 0)+Qbl rest)).length=rest.length - (Qbj (rest.getD 0 0)+Qbl rest):=E ..
     have hp:0 < rest.length:=List.length_pos_iff.2 h0
     obtain ⟨h1,h2,h3⟩:=run_note k _ a2 _ n (by rw [hl]; omega) (fun x hx=>hb x (List.mem_of_mem_drop hx)) he
     exact ⟨h1,h2,by omega⟩
theorem Qtx {bs:List Nat}{n:Nat×Nat×List Nat} (hb:∀ x∈bs,x < 256) (h:Qbv bs=.inl n):n.1=3∧(∀ x∈n.2.2,x < 256)∧n.2.2.length≤bs.length+1:=run_note bs.length bs _ [] n (Nat.le_refl _) hb h
structure Jbt (p:PM):Prop where
 nd:∀ x∈p.nd,x < 256
 ndl:p.nd.length≤5000
 gll:p.gl.length≤10000
 nll:p.nl.length≤10000
 nx:p.at_.next < 4294967296
 sz:Qh2 p.at_≤100000
 rw:∀ r∈p.at_.raws,∀ x∈r.2.2,x < 256
theorem Qfq {w:World}{B n:Nat}{a:Option Addr}{c:Nat}{d:List Nat} (h:w.ownsRow B 5 1 (I a n c) n (Qal d)) (hn:d.length=n) (hl:n≤50000) (hb:∀ x∈d,x < 256):BRd w a d:=by
 subst hn
 obtain ⟨a',c',e,_,hr⟩:=Qic h (by omega) hb
 simp only [Value.slice.injEq] at e
 rw [e.1]
 exact hr
section
attribute [local go_sem ↓] Qni
theorem Qn8 (w:World)(k oa:Int)(oh oi:Nat)(oc:Cp)(nc ns:Int)(b:At)(pl ql dl pn cn rn:Nat)
  (v1 v2 u1 u2:Option Addr) (vc1 vc2 uc1 uc2:Nat) (p1 p2 q1 q2 r1 r2:Option Addr) (pk1 pk2 qk1 qk2 rk1 rk2:Nat) (a1 a2:Option Addr) (c1 c2:Nat)
  (KN:Hid (∀ X,Below w.heap.size w X→Calls D 9 #[.agg #[J V nc,J V ns,I a1 dl c1],.agg #[J V nc,J V ns,I a2 dl c2]] X fun e w'=>e=.returned (Y true)∧Hid (Below X.heap.size X w')))
  (KG:Hid (∀ X,Below w.heap.size w X→Calls D 29 #[I v1 pl vc1,I v2 pl vc2] X fun e w'=>e=.returned (Y true)∧Hid (Below X.heap.size X w')))
  (KL:Hid (∀ X,Below w.heap.size w X→Calls D 29 #[I u1 ql uc1,I u2 ql uc2] X fun e w'=>e=.returned (Y true)∧Hid (Below X.heap.size X w')))
  (KA:Hid (∀ X,Below w.heap.size w X→Calls D 30 #[.agg #[J V b.origin,I p1 pn pk1,J .u32 (b.next:Int),J V b.med,J V b.pref,I q1 cn qk1,I r1 rn rk1],.agg #[J V b.origin,I p2 pn pk2,J .u32 (b.next:Int),J V b.med,J V b.pref,I q2 cn qk2,I r2 rn rk2]] X fun e w'=>e=.returned (Y true)∧Hid (Below X.heap.size X w')))
  (C1 C2:Array Value)
  (h1:C1=#[J V k]++Qce oa oh oi oc++Qct (I v1 pl vc1) #[J V b.origin,I p1 pn pk1,J .u32 (b.next:Int),J V b.med,J V b.pref,I q1 cn qk1,I r1 rn rk1] (I u1 ql uc1)++#[J V nc,J V ns,I a1 dl c1])
  (h2:C2=#[J V k]++Qce oa oh oi oc++Qct (I v2 pl vc2) #[J V b.origin,I p2 pn pk2,J .u32 (b.next:Int),J V b.med,J V b.pref,I q2 cn qk2,I r2 rn rk2] (I u2 ql uc2)++#[J V nc,J V ns,I a2 dl c2]) :
  Calls D 10 #[.agg C1,.agg C2] w fun e w'=>e=.returned (Y true)∧Below w.heap.size w w':=by
 obtain ⟨og,pth,nx,md,pf,cms,rws⟩:=b
 obtain ⟨four,as4,gr,rs,tm,fam,fwd,ll,lt⟩:=oc
 simp only [Qce,Qct] at h1 h2 KA
 have HB1:Hid ((w.alloc (U C1 40)).heap[w.heap.size]?=Z (U C1 40 (0,0))):=heap_alloc_new w _
 have HB2:Hid (((w.alloc (U C1 40)).alloc (U C2 40)).heap[w.heap.size+1]?=Z (U C2 40 (0,0))):=by
  have h9:=heap_alloc_new (w.alloc (U C1 40)) (U C2 40)
  rw [show (w.alloc (U C1 40)).heap.size=w.heap.size+1 by simp] at h9
  exact h9
 have HB1':Hid (((w.alloc (U C1 40)).alloc (U C2 40)).heap[w.heap.size]?=Z (U C1 40 (0,0))):=by show _=_; rw [Qc5 (by simp)]; exact HB1.out
 have HBel:Hid (Below w.heap.size w ((w.alloc (U C1 40)).alloc (U C2 40))):=((Below.refl _ _).alloc (Nat.le_refl _) _).alloc (by simp) _
 have HSZ:Hid (((w.alloc (U C1 40)).alloc (U C2 40)).heap.size=w.heap.size+2):=by show _=_; simp
 have e1:C1.toList=[J V k,J V oa,J V (oh:Int),J .u32 (oi:Int),Y four,J V as4,Y gr,Y rs,J V tm,Y fam,Y fwd,Y ll,J V lt,I v1 pl vc1,J V og,I p1 pn pk1,J .u32 (nx:Int),J V md,J V pf,I q1 cn qk1,I r1 rn rk1,I u1 ql uc1,J V nc,J V ns,I a1 dl c1]:=by rw [h1]; simp
 have e2:C2.toList=[J V k,J V oa,J V (oh:Int),J .u32 (oi:Int),Y four,J V as4,Y gr,Y rs,J V tm,Y fam,Y fwd,Y ll,J V lt,I v2 pl vc2,J V og,I p2 pn pk2,J .u32 (nx:Int),J V md,J V pf,I q2 cn qk2,I r2 rn rk2,I u2 ql uc2,J V nc,J V ns,I a2 dl c2]:=by rw [h2]; simp
 have F1:Hid (∀ X,Below (w.heap.size+2) ((w.alloc (U C1 40)).alloc (U C2 40)) X→∀ j v,C1.toList[j]?=Z v→X.cell? ⟨w.heap.size,j,Q⟩=Z v):=fun X hX j v hv=>by
  rw [hX.cell (p:=⟨w.heap.size,j,Q⟩) (by show w.heap.size < _; omega)]
  have:=Qai HB1'.out j v hv
  rwa [Nat.zero_add] at this
 have F2:Hid (∀ X,Below (w.heap.size+2) ((w.alloc (U C1 40)).alloc (U C2 40)) X→∀ j v,C2.toList[j]?=Z v→X.cell? ⟨w.heap.size+1,j,Q⟩=Z v):=fun X hX j v hv=>by
  rw [hX.cell (p:=⟨w.heap.size+1,j,Q⟩) (by show w.heap.size+1 < _; omega)]
  have:=Qai HB2.out j v hv
  rwa [Nat.zero_add] at this
 rw [e1] at F1
 rw [e2] at F2
 obtain ⟨W1,hW1⟩:∃ W1,W1=w.alloc (U C1 40):=⟨_,rfl⟩
 obtain ⟨X0,hX0⟩:∃ X0,X0=W1.alloc (U C2 40):=⟨_,rfl⟩
 have HR1:Hid ((Instr.box 40 (.agg C1)).run D w=.ok (.pointer (Z ⟨w.heap.size,0,Q⟩)) W1):=by show _=_; rw [hW1]; exact Qlp C1 w
 have HR2:Hid ((Instr.box 40 (.agg C2)).run D W1=.ok (.pointer (Z ⟨w.heap.size+1,0,Q⟩)) X0):=by
  show _=_
  rw [hX0,Qlp C2 W1,hW1,show (w.alloc (U C1 40)).heap.size=w.heap.size+1 by simp]
 rw [← hW1,← hX0] at F1 F2 HBel HSZ
 have HS0:X0.heap.size=w.heap.size+2:=HSZ.out
 have HS:=Qaa HS0
 have z1:w.heap.size < X0.heap.size:=by omega
 have z2:w.heap.size+1 < X0.heap.size:=by omega
 have B0:Hid (Below (w.heap.size+2) X0 X0):=Below.refl _ _
 clear h1 h2 e1 e2 hW1 hX0 HB1 HB2 HB1' HSZ HS0
 have x1_0:X0.cell? ⟨w.heap.size,0,Q⟩=Z (J V k):=F1.out X0 B0.out 0 _ rfl
 have x1_1:X0.cell? ⟨w.heap.size,1,Q⟩=Z (J V oa):=F1.out X0 B0.out 1 _ rfl
 have x1_2:X0.cell? ⟨w.heap.size,2,Q⟩=Z (J V (oh:Int)):=F1.out X0 B0.out 2 _ rfl
 have x1_3:X0.cell? ⟨w.heap.size,3,Q⟩=Z (J .u32 (oi:Int)):=F1.out X0 B0.out 3 _ rfl
 have x1_4:X0.cell? ⟨w.heap.size,4,Q⟩=Z (Y four):=F1.out X0 B0.out 4 _ rfl
 have x1_5:X0.cell? ⟨w.heap.size,5,Q⟩=Z (J V as4):=F1.out X0 B0.out 5 _ rfl
 have x1_6:X0.cell? ⟨w.heap.size,6,Q⟩=Z (Y gr):=F1.out X0 B0.out 6 _ rfl
 have x1_7:X0.cell? ⟨w.heap.size,7,Q⟩=Z (Y rs):=F1.out X0 B0.out 7 _ rfl
 have x1_8:X0.cell? ⟨w.heap.size,8,Q⟩=Z (J V tm):=F1.out X0 B0.out 8 _ rfl
 have x1_9:X0.cell? ⟨w.heap.size,9,Q⟩=Z (Y fam):=F1.out X0 B0.out 9 _ rfl
 have x1_10:X0.cell? ⟨w.heap.size,10,Q⟩=Z (Y fwd):=F1.out X0 B0.out 10 _ rfl
 have x1_11:X0.cell? ⟨w.heap.size,11,Q⟩=Z (Y ll):=F1.out X0 B0.out 11 _ rfl
 have x1_12:X0.cell? ⟨w.heap.size,12,Q⟩=Z (J V lt):=F1.out X0 B0.out 12 _ rfl
 have x1_22:X0.cell? ⟨w.heap.size,22,Q⟩=Z (J V nc):=F1.out X0 B0.out 22 _ rfl
 have x1_23:X0.cell? ⟨w.heap.size,23,Q⟩=Z (J V ns):=F1.out X0 B0.out 23 _ rfl
 have x1_24:X0.cell? ⟨w.heap.size,24,Q⟩=Z (I a1 dl c1):=F1.out X0 B0.out 24 _ rfl
 have x2_0:X0.cell? ⟨w.heap.size+1,0,Q⟩=Z (J V k):=F2.out X0 B0.out 0 _ rfl
 have x2_1:X0.cell? ⟨w.heap.size+1,1,Q⟩=Z (J V oa):=F2.out X0 B0.out 1 _ rfl
 have x2_2:X0.cell? ⟨w.heap.size+1,2,Q⟩=Z (J V (oh:Int)):=F2.out X0 B0.out 2 _ rfl
 have x2_3:X0.cell? ⟨w.heap.size+1,3,Q⟩=Z (J .u32 (oi:Int)):=F2.out X0 B0.out 3 _ rfl
 have x2_4:X0.cell? ⟨w.heap.size+1,4,Q⟩=Z (Y four):=F2.out X0 B0.out 4 _ rfl
 have x2_5:X0.cell? ⟨w.heap.size+1,5,Q⟩=Z (J V as4):=F2.out X0 B0.out 5 _ rfl
 have x2_6:X0.cell? ⟨w.heap.size+1,6,Q⟩=Z (Y gr):=F2.out X0 B0.out 6 _ rfl
 have x2_7:X0.cell? ⟨w.heap.size+1,7,Q⟩=Z (Y rs):=F2.out X0 B0.out 7 _ rfl
 have x2_8:X0.cell? ⟨w.heap.size+1,8,Q⟩=Z (J V tm):=F2.out X0 B0.out 8 _ rfl
 have x2_9:X0.cell? ⟨w.heap.size+1,9,Q⟩=Z (Y fam):=F2.out X0 B0.out 9 _ rfl
 have x2_10:X0.cell? ⟨w.heap.size+1,10,Q⟩=Z (Y fwd):=F2.out X0 B0.out 10 _ rfl
 have x2_11:X0.cell? ⟨w.heap.size+1,11,Q⟩=Z (Y ll):=F2.out X0 B0.out 11 _ rfl
 have x2_12:X0.cell? ⟨w.heap.size+1,12,Q⟩=Z (J V lt):=F2.out X0 B0.out 12 _ rfl
 have x2_22:X0.cell? ⟨w.heap.size+1,22,Q⟩=Z (J V nc):=F2.out X0 B0.out 22 _ rfl
 have x2_23:X0.cell? ⟨w.heap.size+1,23,Q⟩=Z (J V ns):=F2.out X0 B0.out 23 _ rfl
 have x2_24:X0.cell? ⟨w.heap.size+1,24,Q⟩=Z (I a2 dl c2):=F2.out X0 B0.out 24 _ rfl
 go_enter Tryz.func10,Tryz.ntmps10
 go_wp2_with (first | (refine Qe0 _ (.agg C1) _ (by rfl) HR1.out ?_) | (refine Qe0 _ (.agg C2) _ (by rfl) HR2.out ?_))
 with_reducible refine (KN.out X0 HBel.out).mono ?_
 rintro e w3 ⟨rfl,HB3⟩
 have B3:Hid (Below (w.heap.size+2) X0 w3):=by show Below _ _ _; rw [← HS.out]; exact HB3.out
 have BW3:Hid (Below w.heap.size w w3):=HBel.out.trans (B3.out.mono (by omega))
 have z31:w.heap.size < w3.heap.size:=by have:=B3.out.size; omega
 have z32:w.heap.size+1 < w3.heap.size:=by have:=B3.out.size; omega
 clear x1_0 x1_1 x1_2 x1_3 x1_4 x1_5 x1_6 x1_7 x1_8 x1_9 x1_10 x1_11 x1_12 x1_22 x1_23 x1_24 x2_0 x2_1 x2_2 x2_3 x2_4 x2_5 x2_6 x2_7 x2_8 x2_9 x2_10 x2_11 x2_12 x2_22 x2_23 x2_24
 have x1_13:w3.cell? ⟨w.heap.size,13,Q⟩=Z (I v1 pl vc1):=F1.out w3 B3.out 13 _ rfl
 have x2_13:w3.cell? ⟨w.heap.size+1,13,Q⟩=Z (I v2 pl vc2):=F2.out w3 B3.out 13 _ rfl
 go_wp2_with fail
 with_reducible refine (KG.out w3 BW3.out).mono ?_
 rintro e w4 ⟨rfl,HB4⟩
 have B4:Hid (Below (w.heap.size+2) X0 w4):=B3.out.trans (HB4.out.mono (by omega))
 have BW4:Hid (Below w.heap.size w w4):=HBel.out.trans (B4.out.mono (by omega))
 have z41:w.heap.size < w4.heap.size:=by have:=HB4.out.size; omega
 have z42:w.heap.size+1 < w4.heap.size:=by have:=HB4.out.size; omega
 clear x1_13 x2_13
 have x1_21:w4.cell? ⟨w.heap.size,21,Q⟩=Z (I u1 ql uc1):=F1.out w4 B4.out 21 _ rfl
 have x2_21:w4.cell? ⟨w.heap.size+1,21,Q⟩=Z (I u2 ql uc2):=F2.out w4 B4.out 21 _ rfl
 go_wp2_with fail
 with_reducible refine (KL.out w4 BW4.out).mono ?_
 rintro e w5 ⟨rfl,HB5⟩
 have B5:Hid (Below (w.heap.size+2) X0 w5):=B4.out.trans (HB5.out.mono (by omega))
 have BW5:Hid (Below w.heap.size w w5):=HBel.out.trans (B5.out.mono (by omega))
 have z51:w.heap.size < w5.heap.size:=by have:=HB5.out.size; omega
 have z52:w.heap.size+1 < w5.heap.size:=by have:=HB5.out.size; omega
 clear x1_21 x2_21
 have x1_14:w5.cell? ⟨w.heap.size,14,Q⟩=Z (J V og):=F1.out w5 B5.out 14 _ rfl
 have x1_15:w5.cell? ⟨w.heap.size,15,Q⟩=Z (I p1 pn pk1):=F1.out w5 B5.out 15 _ rfl
 have x1_16:w5.cell? ⟨w.heap.size,16,Q⟩=Z (J .u32 (nx:Int)):=F1.out w5 B5.out 16 _ rfl
 have x1_17:w5.cell? ⟨w.heap.size,17,Q⟩=Z (J V md):=F1.out w5 B5.out 17 _ rfl
 have x1_18:w5.cell? ⟨w.heap.size,18,Q⟩=Z (J V pf):=F1.out w5 B5.out 18 _ rfl
 have x1_19:w5.cell? ⟨w.heap.size,19,Q⟩=Z (I q1 cn qk1):=F1.out w5 B5.out 19 _ rfl
 have x1_20:w5.cell? ⟨w.heap.size,20,Q⟩=Z (I r1 rn rk1):=F1.out w5 B5.out 20 _ rfl
 have x2_14:w5.cell? ⟨w.heap.size+1,14,Q⟩=Z (J V og):=F2.out w5 B5.out 14 _ rfl
 have x2_15:w5.cell? ⟨w.heap.size+1,15,Q⟩=Z (I p2 pn pk2):=F2.out w5 B5.out 15 _ rfl
 have x2_16:w5.cell? ⟨w.heap.size+1,16,Q⟩=Z (J .u32 (nx:Int)):=F2.out w5 B5.out 16 _ rfl
 have x2_17:w5.cell? ⟨w.heap.size+1,17,Q⟩=Z (J V md):=F2.out w5 B5.out 17 _ rfl
 have x2_18:w5.cell? ⟨w.heap.size+1,18,Q⟩=Z (J V pf):=F2.out w5 B5.out 18 _ rfl
 have x2_19:w5.cell? ⟨w.heap.size+1,19,Q⟩=Z (I q2 cn qk2):=F2.out w5 B5.out 19 _ rfl
 have x2_20:w5.cell? ⟨w.heap.size+1,20,Q⟩=Z (I r2 rn rk2):=F2.out w5 B5.out 20 _ rfl
 go_wp2_with fail
 with_reducible refine (KA.out w5 BW5.out).mono ?_
 rintro e w6 ⟨rfl,HB6⟩
 clear x1_14 x1_15 x1_16 x1_17 x1_18 x1_19 x1_20 x2_14 x2_15 x2_16 x2_17 x2_18 x2_19 x2_20
 go_wp2
 go_ret
 exact ⟨rfl,BW5.out.trans (HB6.out.mono BW5.out.size)⟩
end
theorem Qoy {w:World}{B1 B2:Nat}{C1 C2:Array Value}{p:PM} (hp:Jbt p) (h1:Qci w B1 C1 p) (h2:Qci w B2 C2 p) :
  Calls D 10 #[.agg C1,.agg C2] w fun e w'=>e=.returned (Y true)∧Below w.heap.size w w':=by
 obtain ⟨v1,A1,u1,a1,c1,e1,g1,n1,at1,d1⟩:=h1
 obtain ⟨v2,A2,u2,a2,c2,e2,g2,n2,at2,d2⟩:=h2
 obtain ⟨va1,vc1,rfl⟩:=Qcd g1
 obtain ⟨va2,vc2,rfl⟩:=Qcd g2
 obtain ⟨ua1,uc1,rfl⟩:=Qcd n1
 obtain ⟨ua2,uc2,rfl⟩:=Qcd n2
 obtain ⟨p1,pk1,q1,qk1,r1,rk1,rfl,x1,y1,z1⟩:=at1
 obtain ⟨p2,pk2,q2,qk2,r2,rk2,rfl,x2,y2,z2⟩:=at2
 have R1:=Qx6 hp.nx hp.sz hp.rw x1 y1 z1
 have R2:=Qx6 hp.nx hp.sz hp.rw x2 y2 z2
 have D1:=Qfq d1 rfl (by have:=hp.ndl; omega) hp.nd
 have D2:=Qfq d2 rfl (by have:=hp.ndl; omega) hp.nd
 refine Qn8 w p.k p.oa p.oh p.oi p.oc p.nc p.ns p.at_ p.gl.length p.nl.length p.nd.length p.at_.path.length p.at_.comms.length p.at_.raws.length va1 va2 ua1 ua2 vc1 vc2 uc1 uc2 p1 p2 q1 q2 r1 r2 pk1 pk2 qk1 qk2 rk1 rk2 a1 a2 c1 c2 ?_ ?_ ?_ ?_ C1 C2 e1 e2
 ·intro X hX
  refine (Qit (p.nc:Int) (p.ns:Int) (p.nc:Int) (p.ns:Int) a1 a2 c1 c2 p.nd p.nd X (by have:=hp.ndl; omega) (D1.below hX) (D2.below hX)).mono ?_
  rintro e w' ⟨rfl,hb⟩
  exact ⟨Qa8 (by simp),hb⟩
 ·intro X hX
  refine (Qnw (Qaq g1 hX) (Qaq g2 hX) (by have:=hp.gll; omega)).mono ?_
  rintro e w' ⟨rfl,m,rfl⟩
  exact ⟨rfl,Qaj (Below.refl _ _) m⟩
 ·intro X hX
  refine (Qnw (Qaq n1 hX) (Qaq n2 hX) (by have:=hp.nll; omega)).mono ?_
  rintro e w' ⟨rfl,m,rfl⟩
  exact ⟨rfl,Qaj (Below.refl _ _) m⟩
 ·intro X hX
  have K:=Qsw p1 p2 pk1 pk2 q1 q2 qk1 qk2 r1 r2 rk1 rk2 p.at_ p.at_ X hp.sz hp.sz (R1.below hX) (R2.below hX)
  rw [Qxn] at K
  unfold atV at K
  exact K.mono fun e w' h=>⟨h.1,h.2⟩
theorem Qlk {f:Nat→Nat}{len:Nat} : ∀ (k i:Nat) (acc r:List (Nat×Nat)),len - i≤k→Qch f len i acc=Z r→r.length≤acc.length+(len - i)
 | 0,i,acc,r,hk,h=>by
  rw [Qfm (by omega)] at h
  cases h
  omega
 | k+1,i,acc,r,hk,h=>by
  by_cases hi:i < len
  ·cases ho:Qsb f len i with
   | false=>rw [Qka hi ho] at h; cases h
   | true =>
    rw [Qj3 hi ho] at h
    have:=Qlk k _ _ r (by omega) h
    simp only [List.length_append,List.length_singleton] at this
    omega
  ·rw [Qfm hi] at h
   cases h
   omega
theorem Qp4 {bs:List Nat}{r:List (Nat×Nat)} (h:Qda bs=Z r):r.length≤bs.length:=by
 have:=Qlk bs.length 0 [] r (by omega) h
 simpa using this
theorem at0_nx:at0.next < 4294967296:=by decide
theorem at0_sz:Qh2 at0≤100000:=by decide
theorem pm0_ok:Jbt pm0:=⟨fun x h=>by simp [pm0] at h,by decide,by decide,by decide,by decide,by decide,fun r h=>by simp [pm0,at0] at h⟩
theorem Qtz {bs:List Nat}(h:∀ x∈bs,x < 256)(k:Nat):∀ x∈bs.drop k,x < 256:=fun x hx=>h x (List.mem_of_mem_drop hx)
theorem Qp7 {k:Nat}{bs p q:List Nat} (hb:∀ x∈bs,x < 256) (h:Qhb k bs=Z (p,q)):(∀ x∈p,x < 256)∧(∀ x∈q,x < 256):=by
 unfold Qhb at h
 split at h
 ·cases h
 ·split at h
  ·cases h
  ·simp only [Option.some.injEq,Prod.mk.injEq] at h
   obtain ⟨rfl,rfl⟩:=h
   exact ⟨fun x hx=>hb x (List.mem_of_mem_drop (List.mem_of_mem_take hx)),fun x hx=>hb x (List.mem_of_mem_drop hx)⟩
theorem Jav {bs:List Nat}(hb:∀ x∈bs,x < 256)(hl:bs.length≤5000):match upR bs with
  | .inl (_,_,d)=>(∀ x∈d,x < 256)∧d.length≤5001
  | .inr (G,N,r)=>Jbt (Qko G N r):=by
 unfold upR
 cases h1:Qhb 2 bs with
 | none=>simp
 | some pq =>
  obtain ⟨p,q⟩:=pq
  obtain ⟨m1,m2⟩:=Qp7 hb h1
  obtain ⟨l1,l2⟩:=Qdi h1
  simp only
  cases h2:Qhb 2 q with
  | none=>simp
  | some an =>
   obtain ⟨at_,nl⟩:=an
   obtain ⟨m3,m4⟩:=Qp7 m2 h2
   obtain ⟨l3,l4⟩:=Qdi h2
   simp only
   cases h3:Qda p with
   | none=>simp
   | some G =>
    cases h4:Qda nl with
    | none=>simp
    | some N =>
     have g1:=Qp4 h3
     have g2:=Qp4 h4
     simp only
     by_cases h5:N=[]∧at_=[]
     ·rw [if_pos h5]
      exact ⟨fun x h=>by simp [Qko] at h,by simp [Qko],by simp only [Qko]; omega,by simp [Qko],at0_nx,at0_sz,fun r h=>by simp [Qko,at0] at h⟩
     ·rw [if_neg h5]
      cases h6:Qbv at_ with
      | inl x =>
       obtain ⟨k,s,d⟩:=x
       obtain ⟨_,n2,n3⟩:=Qtx m3 h6
       exact ⟨n2,by simp only at n3; omega⟩
      | inr b =>
       obtain ⟨_,hn,hs,hw⟩:=Qs6 m3 h6
       simp only
       by_cases hN:N=[]
       ·rw [if_pos hN]
        exact ⟨fun x h=>by simp [Qko] at h,by simp [Qko],by simp only [Qko]; omega,by simp only [Qko]; omega,at0_nx,at0_sz,fun r h=>by simp [Qko,at0] at h⟩
       ·rw [if_neg hN]
        exact ⟨fun x h=>by simp [Qko] at h,by simp [Qko],by simp only [Qko]; omega,by simp only [Qko]; omega,hn,by simp only [Qko,Option.getD_some]; omega,hw⟩
theorem Qn1 {bs:List Nat}(h:∀ x∈bs,x < 256):∀ x∈(Qa6 bs).2.2.2,x < 256:=by
 unfold Qa6
 repeat' split
 all_goals first | (intro x hx; exact h x (List.mem_of_mem_drop (List.mem_of_mem_take hx))) | (intro x hx; simp at hx)
theorem Qnn (bs:List Nat):(Qa6 bs).2.2.2.length≤2:=by
 unfold Qa6
 repeat' split
 all_goals first | (simp; done) | (simp; omega)
theorem Qqg {bs:List Nat}(hb:∀ x∈bs,x < 256)(hl:bs.length≤5000):Jbt (Qcx bs).1∧(∀ x∈(Qcx bs).2.2.2,x < 256)∧(Qcx bs).2.2.2.length≤5001:=by
 unfold Qcx
 split
 ·exact ⟨pm0_ok,Qn1 hb,by have:=Qnn bs; simp only; omega⟩
 ·split
  ·exact ⟨pm0_ok,by simp,by simp⟩
  ·split
   ·cases ho:Qgu (bs.drop 19) with
    | inl x =>
     obtain ⟨k,s,d⟩:=x
     refine ⟨pm0_ok,?_⟩
     unfold Qgu at ho
     repeat' split at ho
     all_goals first | (simp only [Sum.inl.injEq,Prod.mk.injEq] at ho; obtain ⟨_,_,rfl⟩:=ho; simp) | (cases ho; done)
    | inr x =>
     obtain ⟨a,h,i,c⟩:=x
     exact ⟨⟨fun x h=>by simp [Qgy] at h,by simp [Qgy],by simp [Qgy],by simp [Qgy],at0_nx,at0_sz,fun r h=>by simp [Qgy,at0] at h⟩,by simp,by simp⟩
   ·split
    ·have:=Jav (Qtz hb 19) (by rw [E]; omega)
     cases hu:upR (bs.drop 19) with
     | inl x =>
      obtain ⟨k,s,d⟩:=x
      rw [hu] at this
      exact ⟨pm0_ok,this.1,this.2⟩
     | inr x =>
      obtain ⟨G,N,r⟩:=x
      rw [hu] at this
      exact ⟨this,by simp,by simp⟩
    ·split
     ·exact ⟨⟨Qtz hb 21,by simp only [Qi2,E]; omega,by simp [Qi2],by simp [Qi2],at0_nx,at0_sz,fun r h=>by simp [Qi2,at0] at h⟩,by simp,by simp⟩
     ·exact ⟨⟨fun x h=>by simp [pmAlive] at h,by simp [pmAlive],by simp [pmAlive],by simp [pmAlive],at0_nx,at0_sz,fun r h=>by simp [pmAlive,at0] at h⟩,by simp,by simp⟩
