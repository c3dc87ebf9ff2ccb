import Derived.Test.YtdojlejehjbliaaGreatDoorPA7
import Derived.ArgAppend
namespace Go.Proofs.YtdojlejehjbliaaGreatDoor
set_option maxHeartbeats 4000000
open _root_.Option renaming none → I,some → J
open _root_.Go.Value renaming slice → V,bool → Q,int → L
open _root_.List renaming getD_eq_getElem?_getD → Z,length_drop → U,length_append → D
open _root_.Go.World renaming block_lt_of_cell? → Y
open _root_.Go.Proofs.Tryz renaming prog → K
open _root_.Go.Ending renaming returned → E
open Go.RowKit
set_option maxRecDepth 100000
def Qck (w:World)(B:Nat)(v:Value)(xs:List Nat):Prop :=
 (v=V I 0 0∧xs=[])∨∃ g o cap cur,v=V (J ⟨g,o,I⟩) xs.length cap∧B≤g∧w.heap[g]?=J (.cells cur 5 (0,0))∧xs.length≤cap∧cap≤maxLen∧o+cap≤cur.size∧∀ j:Nat,j < xs.length→cur[o+j]?=J (L .u8 ((xs.getD j 0:Nat):Int))
theorem Qck.nil (w:World)(B:Nat):Qck w B (V I 0 0) []:=.inl ⟨rfl,rfl⟩
theorem Qg7 (xs:List Nat)(j:Nat)(hj:j < xs.length):(Qal xs)[j]?=J (L .u8 ((xs.getD j 0:Nat):Int)):=by
 simp [Qal,hj]
theorem Qck.of_own {w:World}{B:Nat}{v:Value}{xs:List Nat} (h:w.ownsRow B 5 1 v xs.length (Qal xs)):Qck w B v xs:=by
 rcases h.2 with ⟨rfl,h0⟩ | ⟨g,cap,cur,rfl,hg,hc,hn,hm,hs,ht⟩
 ·exact .inl ⟨rfl,List.eq_nil_of_length_eq_zero h0⟩
 ·refine .inr ⟨g,0,cap,cur,rfl,hg,hc,hn,hm,by omega,fun j hj=>?_⟩
  rw [Nat.zero_add,← Qg7 xs j hj,← ht,List.getElem?_take_of_lt (by omega),Array.getElem?_toList]
theorem Qck.slice {w:World}{B:Nat}{v:Value}{xs:List Nat} (h:Qck w B v xs):∃ a c,v=V a xs.length c∧xs.length≤c:=by
 rcases h with ⟨rfl,rfl⟩ | ⟨g,o,cap,cur,rfl,_,_,hn,_⟩
 ·exact ⟨I,0,rfl,Nat.le_refl _⟩
 ·exact ⟨_,_,rfl,hn⟩
theorem Qck.keeps {F:Nat→Prop}{w w':World}{B:Nat}{v:Value}{xs:List Nat} (h:Qck w B v xs) (hk:Qae F w w') (hF:∀ b,v.ownBlock=J b→¬ F b):Qck w' B v xs:=by
 rcases h with h | ⟨g,o,cap,cur,rfl,hg,hc,rest⟩
 ·exact .inl h
 ·exact .inr ⟨g,o,cap,cur,rfl,hg,by rw [hk.block g (Array.getElem?_eq_some_iff.1 hc).1 (hF g rfl)]; exact hc,rest⟩
theorem Qck.later {w w':World}{B:Nat}{v:Value}{xs:List Nat} (h:Qck w B v xs) (hb:Below w.heap.size w w'):Qck w' B v xs :=
 h.keeps (F:=fun _=>False) (Qae.of_below hb _) (fun _ _=>id)
theorem Qck.lt {w:World}{B:Nat}{v:Value}{xs:List Nat} (h:Qck w B v xs):∀ b,v.ownBlock=J b→B≤b∧b < w.heap.size:=by
 intro b hb
 rcases h with ⟨rfl,_⟩ | ⟨g,o,cap,cur,rfl,hg,hc,_⟩
 ·simp [Value.ownBlock] at hb
 ·simp [Value.ownBlock] at hb
  subst hb
  exact ⟨hg,(Array.getElem?_eq_some_iff.1 hc).1⟩
theorem Qck.rest {w:World}{B g o c z:Nat}{xs:List Nat} (h:Qck w B (V (J ⟨g,o,I⟩) xs.length c) xs) (hz:z≤xs.length):Qck w B (Qjb g o xs.length c z) (xs.drop z):=by
 rcases h with ⟨h,_⟩ | ⟨g',o',cap,cur,e,hg,hc,hn,hm,hs,ht⟩
 ·cases h
 ·injection e with e1 e2 e3
  injection e1 with e1
  injection e1 with e1 e4 e5
  subst e1 e3 e4
  unfold Qjb
  by_cases e:xs.length=z
  ·rw [if_pos e]
   exact .inl ⟨rfl,List.drop_of_length_le (by omega)⟩
  ·rw [if_neg e]
   refine .inr ⟨g,o+z,c - z,cur,by rw [U],hg,hc,by rw [U]; omega,by omega,by omega,fun j hj=>?_⟩
   rw [U] at hj
   rw [Nat.add_assoc,ht (z+j) (by omega)]
   simp only [Z,List.getElem?_drop]
theorem Qck.rd {w:World}{B:Nat}{a:Option Addr}{c:Nat}{xs:List Nat} (h:Qck w B (V a xs.length c) xs) (hb:∀ x∈xs,x < 256):BRd w a xs:=by
 rcases h with ⟨h,rfl⟩ | ⟨g,o,cap,cur,e,hg,hc,hn,hm,hs,ht⟩
 ·injection h with h1 h2 h3
  subst h1
  exact Qbf _ _
 ·injection e with e1 e2 e3
  subst e1
  refine ⟨⟨by omega,fun _=>⟨g,o,rfl,fun i hi=>?_⟩⟩,hb⟩
  simp only [World.cell?,hc]
  exact ht i hi
theorem Qmv {g:Nat}{t:TypeId}{f:Nat×Nat} : ∀ (vs:List Value) (o:Nat) (w:World) (C0:Array Value),w.heap[g]?=J (.cells C0 t f)→o+vs.length≤C0.size →
  ∃ C',(w.setCells g o vs).heap[g]?=J (.cells C' t f)∧C'.size=C0.size∧(∀ k,k < o→C'[k]?=C0[k]?)∧(∀ j,j < vs.length→C'[o+j]?=vs[j]?)
 | [],o,w,C0,h,_=>⟨C0,h,rfl,fun _ _=>rfl,fun j hj=>absurd hj (by simp)⟩
 | v :: r,o,w,C0,h,hl=>by
  rw [List.length_cons] at hl
  have h1:(w.setCell ⟨g,o,I⟩ v).heap[g]?=J (.cells (C0.setIfInBounds o v) t f):=by
   obtain ⟨a,b⟩:=f
   simp only [World.setCell,Array.getElem?_modify,h]
   simp
  obtain ⟨C',g1,g2,g3,g4⟩:=Qmv r (o+1) (w.setCell ⟨g,o,I⟩ v) (C0.setIfInBounds o v) h1 (by simp; omega)
  refine ⟨C',by rw [World.setCells]; exact g1,by rw [g2]; simp,fun k hk=>?_,fun j hj=>?_⟩
  ·rw [g3 k (by omega),Array.getElem?_setIfInBounds_ne (by omega)]
  ·cases j with
   | zero =>
    rw [Nat.add_zero,g3 o (by omega),Array.getElem?_setIfInBounds_self_of_lt (by omega)]
    rfl
   | succ j =>
    rw [show o+(j+1)=o+1+j by omega,g4 j (by simpa using hj)]
    simp
theorem Qzm {w:World}{B:Nat}{v:Value}{ys:List Nat} (zs:List Nat) (a:Option Addr) (c:Nat) (ho:Qck w B v ys) (hB:B≤w.heap.size) (hl:ys.length+zs.length≤500000) (h:BRd w a zs) :
  ∃ v' w',(Builtin.append_ #[22,22] 22 #[v,V a zs.length c]).run K w=.ok v' w'∧Qck w' B v' (ys++zs)∧w.grownBy w' v.ownBlock∧∀ b,v'.ownBlock=J b→v.ownBlock=J b∨w.heap.size≤b:=by
 obtain ⟨i,z,hi,hz,hsz,hby,hzs⟩:=elemU8.info
 rcases ho with ⟨rfl,rfl⟩ | ⟨g,o,cap,cur,rfl,hg,hc,hn,hm,hs,ht⟩
 ·obtain ⟨v',w',hr,ho1,hg1,hnew⟩:=Qfy (ys:=[]) zs a c (Qbm w B _ _) hB (by omega) h
  refine ⟨v',w',hr,Qck.of_own ho1,hg1,fun b hb=>?_⟩
  rcases hnew with e | e
  ·exact .inl (by rw [← e]; exact hb)
  ·rw [e] at hb
   simp at hb
   exact .inr (by omega)
 ·cases a with
  | none =>
   have hz0:zs=[]:=by
    cases zs with
    | nil=>rfl
    | cons z r=>obtain ⟨b,off,e,_⟩:=h.1.2 (by simp); cases e
   subst hz0
   refine ⟨_,w,append_nil elemU8 w _ _ cap c hn,?_,⟨rfl,rfl,rfl,Nat.le_refl _,fun _ _ _=>rfl⟩,fun b hb=>.inl hb⟩
   rw [List.append_nil]
   exact .inr ⟨g,o,cap,cur,rfl,hg,hc,hn,hm,hs,ht⟩
  | some ad =>
   have hcz:∀ j x,(Qal zs)[j]?=J x→w.cell? (ad.add j)=J x:=fun j x hx=>by
    have hj:j < zs.length:=by have:=(List.getElem?_eq_some_iff.1 hx).1; rwa [Qbd] at this
    obtain ⟨b,off,e,h5⟩:=h.1.2 (by omega)
    cases e
    rw [Addr.add_mid,h5 j hj,← hx]
    simp [Qal,hj]
   by_cases hroom:ys.length+zs.length≤cap
   ·have hr:=run_append_room_cells (P:=K) w 22 22 5 i elemU8.sl hi g o ys.length cap ad zs.length c (Qal zs) (by rw [Qbd,hsz]; omega) hcz (Qfk _) hroom
     (fun j hj=>by
      rw [Qbd] at hj
      rw [hsz,Nat.mul_one]
      simp only [World.cell?,hc]
      rw [Array.getElem?_eq_getElem (by omega)]
      rfl)
     (fun j hj=>by simp [World.frozen?,hc])
    rw [hsz,Nat.mul_one] at hr
    obtain ⟨C',g1,g2,g3,g4⟩:=Qmv (Qal zs) (o+ys.length) w cur hc (by rw [Qbd]; omega)
    refine ⟨_,_,hr,.inr ⟨g,o,cap,C',by rw [D],hg,g1,by rw [D]; omega,hm,by rw [g2]; exact hs,fun j hj=>?_⟩,?_,fun b hb=>.inl hb⟩
    ·rw [D] at hj
     by_cases hjy:j < ys.length
     ·rw [g3 (o+j) (by omega),ht j hjy]
      simp only [Z,List.getElem?_append_left hjy]
     ·have:=g4 (j - ys.length) (by rw [Qbd]; omega)
      rw [show o+ys.length+(j - ys.length)=o+j by omega] at this
      rw [this,Qg7 zs (j - ys.length) (by omega)]
      simp only [Z]
      rw [List.getElem?_append_right (by omega)]
    ·have hk:=(Qae.refl (fun x=>x=g) w).setCells g (o+ys.length) (Qal zs) (.inl rfl)
     exact ⟨hk.os,hk.tape,hk.output,hk.size,fun k hk2 hne=>hk.block k hk2 (fun e=>hne (by rw [e]; rfl))⟩
   ·obtain ⟨v',w',hr,ho1,hg1⟩:=run_append_arg_grows (P:=K) w 22 22 5 i z 1 1 elemU8.sl hi hz hsz hby hzs (by omega) ⟨g,o,I⟩ ys.length cap (Qal ys) (by rw [Qbd]; omega)
     (fun j u hu=>by
      have hj:j < ys.length:=by have:=(List.getElem?_eq_some_iff.1 hu).1; rwa [Qbd] at this
      rw [Addr.add_mid]
      rw [← hu,Qg7 ys j hj]
      simp only [World.cell?,hc]
      exact ht j hj) ad zs.length c (Qal zs) (by rw [Qbd]; omega) hcz (by omega) (by unfold maxLen; omega) (by omega)
    have ho2:w'.ownsRow B 5 1 v' (ys++zs).length (Qal (ys++zs)):=by
     rw [Qfo,D]
     exact Qa0 ho1 hB
    refine ⟨v',w',hr,Qck.of_own ho2,⟨hg1.os,hg1.tape,hg1.output,hg1.size,fun k hk _=>hg1.block k hk (by simp)⟩,fun b hb=>.inr (Qb1 ho1 b hb).1⟩
/-- Feed, whatever was taken before. -/
theorem Qxk (w:World)(S B:Nat)(v:Value)(ys zs:List Nat)(a:Option Addr)(c:Nat)(k s:Int)(d:Value)(h:Qc6 w S v k s d)(ho:Qck w B v ys)(hB:B≤w.heap.size)(hS:v.ownBlock≠J S)(hl:ys.length+zs.length≤100000)(hz:BRd w a zs) :
  Calls K 13 #[.pointer (J ⟨S,0,I⟩),V a zs.length c] w fun e w'=>e=E (.tuple #[])∧∃ v',Qc6 w' S v' k s d∧Qck w' B v' (ys++zs)∧v'.ownBlock≠J S∧Qae (fun b=>b=S∨v.ownBlock=J b) w w':=by
 obtain ⟨v',w1,hr,ho1,hg,hnew⟩:=Qzm zs a c ho hB (by omega) hz
 have hSz:S < w.heap.size:=Y w _ h.c0
 have hs1:Qc6 w1 S v k s d:=h.of_block (hg.block S hSz (Ne.symm hS))
 have hne:v'.ownBlock≠J S:=fun e=>by
  rcases hnew S e with h9 | h9
  ·exact hS h9
  ·omega
 obtain ⟨va,vc,rfl,_⟩:=ho.slice
 obtain ⟨va1,vc1,rfl,_⟩:=ho1.slice
 have c0:=h.c0
 have d0:=hs1.c0
 have f0:=hs1.fz 0 (by omega)
 have hz1:S < w1.heap.size:=Y w1 _ d0
 have HK:Hid (Qae (fun b=>b=S∨(Value.slice va ys.length vc).ownBlock=J b) w (w1.setCell ⟨S,0,I⟩ (V va1 (ys++zs).length vc1))):=((Qae.refl _ w).grown hg fun b hb=>.inl (.inr hb)).setCell _ _ _ (.inl (.inl rfl))
 have HO:Hid (Qck (w1.setCell ⟨S,0,I⟩ (V va1 (ys++zs).length vc1)) B (V va1 (ys++zs).length vc1) (ys++zs)):=ho1.keeps ((Qae.refl (fun b=>b=S) w1).setCell S 0 _ (.inl rfl)) fun b hb e=>by subst e; exact hne hb
 have HS:=Qaa (hs1.wait (V va1 (ys++zs).length vc1))
 have HR:=Qaa hr
 have HNe:=Qaa hne
 have dl:decide ((1048576:Int) - (ys.length:Int) < (zs.length:Int))=false:=decide_eq_false (by omega)
 have hw1:IntKind.i64.wrap ((1048576:Int) - (ys.length:Int))=(1048576:Int) - (ys.length:Int):=by rw [IntKind.wrap_i64]; omega
 clear h ho hs1 hg hnew ho1 hr hne hz hS
 generalize (ys++zs).length=nn at *
 generalize ys++zs=bb at *
 generalize zs.length=nz at *
 generalize ys.length=ny at *
 go_enter Tryz.func13,Tryz.ntmps13
 go_wp2_with ((with_reducible refine Qdw _ _ 22 _ (V a nz c) _ ?_ ?_ HR.out ?_); (· rfl); (· rfl))
 exact bodyPost_end (results_none rfl _ _ _) rfl ⟨rfl,_,HS.out,HO.out,HNe.out,HK.out⟩
def Qhb (k:Nat)(bs:List Nat):Option (List Nat×List Nat) :=
 if bs.length < k then I else if bs.length < k+Qcn (bs.take k) then I else J ((bs.drop k).take (Qcn (bs.take k)),bs.drop (k+Qcn (bs.take k)))
def Qjl (w:World)(e:Ending)(r:Option (List Nat×List Nat)):Prop:=match r with
 | none=>e=E (.tuple #[V I 0 0,V I 0 0,Q false])
 | some (p,q)=>∃ ap cp aq cq,e=E (.tuple #[V ap p.length cp,V aq q.length cq,Q true])∧p.length≤cp∧q.length≤cq∧BRd w ap p∧BRd w aq q
theorem Qlj {k:Nat}{bs:List Nat} (h:bs.length < k):Qhb k bs=I:=by unfold Qhb; rw [if_pos h]
theorem Qmi {k:Nat}{bs:List Nat} (h:¬ bs.length < k) (h2:bs.length < k+Qcn (bs.take k)):Qhb k bs=I:=by unfold Qhb; rw [if_neg h,if_pos h2]
theorem Qgl {k:Nat}{bs:List Nat} (h:¬ bs.length < k) (h2:¬ bs.length < k+Qcn (bs.take k)):Qhb k bs=J ((bs.drop k).take (Qcn (bs.take k)),bs.drop (k+Qcn (bs.take k))):=by unfold Qhb; rw [if_neg h,if_neg h2]
theorem Qds {w:World}{g o k:Nat}{bs:List Nat} (h:BRd w (J ⟨g,o,I⟩) bs) (hk:k≤bs.length):BRd w (J ⟨g,o+k,I⟩) (bs.drop k):=by
 have:=Qcq h k (bs.length - k) (by omega)
 rwa [List.take_of_length_le (by rw [U]; omega)] at this
theorem Qh1 {w:World}{a:Option Addr}{g o k l c:Nat}{bs:List Nat} (h:BRd w (J ⟨g,o,I⟩) bs) (hk:k+l≤bs.length) (hc:bs.length≤c) (ha:a=if c=k then J ⟨g,o,I⟩ else J ⟨g,o+k,I⟩):BRd w a ((bs.drop k).take l):=by
 by_cases e:c=k
 ·have:(bs.drop k).take l=[]:=by
   rw [List.drop_eq_nil_of_le (by omega),List.take_nil]
  rw [this]
  exact Qbf _ _
 ·rw [ha,if_neg e]
  exact Qcq h k l hk
theorem Qcw (a:Option Addr)(c k:Nat)(bs:List Nat)(w:World)(hk1:1≤k)(hk2:k≤2)(hl:bs.length≤100000)(hcap:bs.length≤c)(h:BRd w a bs) :
  Calls K 39 #[V a bs.length c,L .i64 (k:Int)] w fun e w'=>Qjl w e (Qhb k bs)∧∃ m,w'=w.drewN m:=by
 by_cases h1:bs.length < k
 ·rw [Qlj h1]
  unfold Qjl
  have h1i:(bs.length:Int) < (k:Int):=by omega
  clear h hcap hl
  generalize bs.length=n at *
  go_enter Tryz.func39,Tryz.ntmps39
  go_wp2_with fail
  exact bodyPost_ret (v:=.tuple #[V I 0 0,V I 0 0,Q false]) (by simp [results,Tryz.results39,go_sem]) rfl ⟨rfl,0,rfl⟩
 ·obtain ⟨g,o,rfl,hc⟩:=h.1.2 (by omega)
  have htl:(bs.take k).length=k:=by rw [List.length_take]; omega
  have h3:=Qe8 h k
  have hN:=Qh8 g o k c (bs.take k) w htl (by omega) h3.2 (fun i hi=>by
   obtain ⟨g',o',e,h9⟩:=h3.1.2 (by omega)
   cases e
   exact h9 i (by omega))
  have hm:Qcn (bs.take k) < 65536:=by
   have h9:=Qjo (bs.take k) h3.2
   rw [htl] at h9
   rcases (by omega:k=1∨k=2) with rfl | rfl <;> simp at h9 <;> omega
  have h1i:¬ ((bs.length:Int) < (k:Int)):=by omega
  have hki:(k:Int)≤(c:Int):=by omega
  have hk0:(0:Int)≤(k:Int):=Int.natCast_nonneg _
  have HN:=Qaa hN
  by_cases h2:bs.length < k+Qcn (bs.take k)
  ·rw [Qmi h1 h2]
   unfold Qjl
   generalize Qcn (bs.take k)=m at *
   have h2i:(bs.length:Int) < (k:Int)+(m:Int):=by omega
   clear h hcap hl h3 htl hc hN
   generalize bs.length=n at *
   go_enter Tryz.func39,Tryz.ntmps39
   go_wp2_with fail
   with_reducible refine HN.out.mono ?_
   rintro e w1 ⟨rfl,rfl⟩
   go_wp2_with fail
   exact bodyPost_ret (v:=.tuple #[V I 0 0,V I 0 0,Q false]) (by simp [results,Tryz.results39,go_sem]) rfl ⟨rfl,0,rfl⟩
  ·rw [Qgl h1 h2]
   unfold Qjl
   generalize Qcn (bs.take k)=m at *
   have hp:((bs.drop k).take m).length=m:=by rw [List.length_take,U]; omega
   have hq:(bs.drop (k+m)).length=bs.length - (k+m):=U
   simp only [hp,hq]
   have h2i:¬ ((bs.length:Int) < (k:Int)+(m:Int)):=by omega
   have HP:Hid (∀ a,a=(if c=k then J ⟨g,o,I⟩ else J ⟨g,o+k,I⟩)→BRd w a ((bs.drop k).take m)):=fun a ha=>Qh1 h (by omega) hcap ha
   have HQ:Hid (∀ a,a=(if c=k+m then J ⟨g,o,I⟩ else J ⟨g,o+(k+m),I⟩)→BRd w a (bs.drop (k+m))):=fun a ha=>by
    have:=Qh1 (l:=bs.length - (k+m)) h (by omega) hcap ha
    rwa [List.take_of_length_le (by rw [U]; omega)] at this
   have hcm:(k:Int)+(m:Int)≤(c:Int):=by omega
   have HC:=Qaa hcap
   obtain ⟨e,he⟩:∃ e:Nat,(k:Int)+(m:Int)=(e:Int):=⟨k+m,by omega⟩
   have hee:e=k+m:=by omega
   have HEE:=Qaa hee
   have hke:k≤e:=by omega
   have hen:e≤bs.length:=by omega
   have hec:e≤c:=by omega
   have hkei:(k:Int)≤(e:Int):=by omega
   have heni:(e:Int)≤(bs.length:Int):=by omega
   have heci:(e:Int)≤(c:Int):=by omega
   clear h h3 htl hc hN hp hq hee hcap h1 h2
   generalize bs.length=n at *
   have hem:e - k=m:=by have:=HEE.out; omega
   by_cases hck:c=k
   ·subst hck
    obtain rfl:e=c:=by omega
    obtain rfl:m=0:=by omega
    go_enter Tryz.func39,Tryz.ntmps39
    go_wp2_with fail
    with_reducible refine HN.out.mono ?_
    rintro e9 w1 ⟨rfl,rfl⟩
    go_wp2_with fail
    go_quiet (fail)
    go_wp2_with fail
    refine bodyPost_ret (v:=.tuple #[V (J ⟨g,o,I⟩) 0 0,V (J ⟨g,o,I⟩) (n - e) 0,Q true]) (by simp [results,Tryz.results39,go_sem]) rfl ⟨⟨J ⟨g,o,I⟩,0,J ⟨g,o,I⟩,0,by rw [Nat.add_zero],by omega,by have:=HC.out; omega,HP.out _ (by simp),HQ.out _ (by simp)⟩,_,rfl⟩
   ·by_cases hce:c=e
    ·subst hce
     go_enter Tryz.func39,Tryz.ntmps39
     go_wp2_with fail
     with_reducible refine HN.out.mono ?_
     rintro e9 w1 ⟨rfl,rfl⟩
     go_wp2_with fail
     go_quiet (fail)
     go_wp2_with fail
     refine bodyPost_ret (v:=.tuple #[V (J ⟨g,o+k,I⟩) m (c - k),V (J ⟨g,o,I⟩) (n - c) 0,Q true]) (by simp [results,Tryz.results39,go_sem,hem]) rfl ⟨⟨J ⟨g,o+k,I⟩,c - k,J ⟨g,o,I⟩,0,by rw [HEE.out],by have:=HC.out; have:=HEE.out; omega,by have:=HC.out; have:=HEE.out; omega,HP.out _ (by rw [if_neg hck]),HQ.out _ (by rw [← HEE.out,if_pos rfl])⟩,_,rfl⟩
    ·go_enter Tryz.func39,Tryz.ntmps39
     go_wp2_with fail
     with_reducible refine HN.out.mono ?_
     rintro e9 w1 ⟨rfl,rfl⟩
     go_wp2_with fail
     go_quiet (fail)
     go_wp2_with fail
     refine bodyPost_ret (v:=.tuple #[V (J ⟨g,o+k,I⟩) m (c - k),V (J ⟨g,o+e,I⟩) (n - e) (c - e),Q true]) (by simp [results,Tryz.results39,go_sem]) rfl ⟨⟨J ⟨g,o+k,I⟩,c - k,J ⟨g,o+e,I⟩,c - e,by rw [HEE.out],by have:=HC.out; have:=HEE.out; omega,by have:=HC.out; have:=HEE.out; omega,HP.out _ (by rw [if_neg hck]),HQ.out _ (by rw [← HEE.out,if_neg hce])⟩,_,rfl⟩
def Qry (w:World)(H:Nat)(c:Cp):Prop:=w.cell? ⟨H,0,I⟩=J (Q c.four)∧w.cell? ⟨H,1,I⟩=J (L .i64 c.as4)∧w.cell? ⟨H,2,I⟩=J (Q c.gr)∧w.cell? ⟨H,3,I⟩=J (Q c.rs)∧w.cell? ⟨H,4,I⟩=J (L .i64 c.tm)∧w.cell? ⟨H,5,I⟩=J (Q c.fam)∧w.cell? ⟨H,6,I⟩=J (Q c.fwd)∧w.cell? ⟨H,7,I⟩=J (Q c.ll)∧w.cell? ⟨H,8,I⟩=J (L .i64 c.lt)
theorem Qry.block {w w':World}{H:Nat}{c:Cp} (h:Qry w H c) (hb:w'.heap[H]?=w.heap[H]?):Qry w' H c:=by
 have k:∀ j,w'.cell? ⟨H,j,I⟩=w.cell? ⟨H,j,I⟩:=fun j=>World.cell?_of_block hb
 unfold Qry at *
 simp only [k]
 exact h
theorem Qry.size {w:World}{H:Nat}{c:Cp} (h:Qry w H c):H < w.heap.size:=by
 have:=Y w _ h.1
 simpa using this
theorem Qry.new (w:World)(c:Cp):Qry (w.alloc (.cells (Qx7 c) 26)) w.heap.size c:=by
 unfold Qry Qx7
 refine ⟨?_,?_,?_,?_,?_,?_,?_,?_,?_⟩ <;> simp [go_sem]
structure Qeg (w:World) (X:Nat) (c:Cp):Prop where
 cells:Qry w X c
 free:∀ j,w.frozen? ⟨X,j,I⟩=false
theorem Qeg.size {w:World}{X:Nat}{c:Cp} (h:Qeg w X c):X < w.heap.size:=h.cells.size
theorem Qeg.block {w w':World}{X:Nat}{c:Cp} (h:Qeg w X c) (hb:w'.heap[X]?=w.heap[X]?):Qeg w' X c :=
 ⟨h.cells.block hb,fun j=>by rw [World.frozen?_of_block hb]; exact h.free j⟩
theorem Qeg.later {w w':World}{X:Nat}{c:Cp} (h:Qeg w X c) (hb:Below w.heap.size w w'):Qeg w' X c:=h.block (hb.block X h.size)
def Qlr (X:Nat)(r:Option Cp)(e:Ending)(w:World):Prop:=match r with
 | none=>e=E (Q false)
 | some c=>e=E (Q true)∧Qeg w X c
theorem Quu (X:Nat)(r:Option Cp)(w:World)(h:r=I):Qlr X r (E (Q false)) w:=by rw [h]; rfl
theorem Qf2 {X:Nat}{r:Option Cp}{w:World}{c:Cp} (h:r=J c) (hb:Qeg w X c):Qlr X r (E (Q true)) w:=by rw [h]; exact ⟨rfl,hb⟩
theorem Qdh (w:World)(X k:Nat)(u:Value)(j:Nat)(v:Value)(hj:w.cell? ⟨X,j,I⟩=J v):(w.setCell ⟨X,k,I⟩ u).cell? ⟨X,j,I⟩=J (if k=j then u else v):=by
 by_cases e:k=j
 ·subst e
  rw [if_pos rfl]
  exact World.cell?_setCell_same _ _ _ hj
 ·rw [if_neg e,World.cell?_setCell_other _ _ _ _ (by intro e9; injection e9 with _ e2 _; exact e e2)]
  exact hj
theorem Qtj (X:Nat)(c:Cp)(a:Option Addr)(cap:Nat)(bs:List Nat)(w:World)(hx:Qeg w X c)(hr:BRd w a bs) :
  Calls K 87 #[.pointer (J ⟨X,0,I⟩),V a bs.length cap] w fun e w'=>Qlr X (Qa1 65 bs c) e w'∧Qae (fun b=>b=X) w w':=by
 have e65:Qa1 65 bs c=if bs.length=4∧Qcn bs≠0 then J (Qfe bs c) else I:=by unfold Qa1; rw [if_pos rfl]
 by_cases h4:bs.length=4
 ·obtain ⟨b,o,rfl,hc⟩:=hr.1.2 (by omega)
  have HN:=Qaa (Qju b o 4 cap bs w h4 (by omega) hr.2 (fun i hi=>hc i (by omega)))
  have hlt:Qcn bs < 4294967296:=by have:=Qjo bs hr.2; rw [h4] at this; simpa using this
  have HF:=Qaa (fun W=>Qrr (Qfe bs c) W)
  have hg:Qrz (Qfe bs c)=decide (Qcn bs≠0):=by
   show (if true then decide _ else decide _)=_
   rw [if_pos rfl]
   show decide ((1:Int)≤(Qcn bs:Int)∧(Qcn bs:Int)≤4294967295)=_
   rw [Bool.eq_iff_iff,decide_eq_true_iff,decide_eq_true_iff]
   omega
  rw [hg] at HF
  have HE:Hid (Qa1 65 bs c=if Qcn bs≠0 then J (Qfe bs c) else I):=by
   show _=_
   rw [e65]
   by_cases h:Qcn bs≠0
   ·rw [if_pos ⟨h4,h⟩,if_pos h]
   ·rw [if_neg (fun h9=>h h9.2),if_neg h]
  have HX:=Qaa hx
  have hXs:=hx.size
  obtain ⟨x0,x1,x2,x3,x4,x5,x6,x7,x8⟩:=hx.cells
  have f0:=hx.free 0
  have f1:=hx.free 1
  generalize Qa1 65 bs c=ro at *
  have HB:Hid (∀ W,Below ((w.setCell ⟨X,0,I⟩ (Q true)).setCell ⟨X,1,I⟩ (L .i64 (Qcn bs:Int))).heap.size ((w.setCell ⟨X,0,I⟩ (Q true)).setCell ⟨X,1,I⟩ (L .i64 (Qcn bs:Int))) W→Qeg W X (Qfe bs c)∧Qae (fun b=>b=X) w W):=fun W hb=>by
   have k:∀ j v,w.cell? ⟨X,j,I⟩=J v→((w.setCell ⟨X,0,I⟩ (Q true)).setCell ⟨X,1,I⟩ (L .i64 (Qcn bs:Int))).cell? ⟨X,j,I⟩=J (if 1=j then L .i64 (Qcn bs:Int) else if 0=j then Q true else v):=fun j v h=>Qdh _ X 1 _ j _ (Qdh _ X 0 _ j _ h)
   refine ⟨Qeg.later ⟨⟨k 0 _ x0,k 1 _ x1,k 2 _ x2,k 3 _ x3,k 4 _ x4,k 5 _ x5,k 6 _ x6,k 7 _ x7,k 8 _ x8⟩,fun j=>by rw [World.frozen?_setCell,World.frozen?_setCell]; exact HX.out.free j⟩ hb,?_⟩
   exact (((Qae.refl (fun b=>b=X) w).setCell X 0 _ (.inl rfl)).setCell X 1 _ (.inl rfl)).trans (Qae.of_below hb _) (fun _ _ h=>h)
  clear hr hc e65 hg hx
  rw [h4]
  obtain ⟨four,as4,gr,rs,tm,fam,fwd,ll,lt⟩:=c
  unfold Qfe Qga at HF
  simp only at *
  generalize Qcn bs=N at *
  clear h4
  go_enter Tryz.func87,Tryz.ntmps87
  go_wp2_with fail
  refine HN.out.mono ?_
  rintro e w1 ⟨rfl,rfl⟩
  go_wp2_with fail
  refine (HF.out _).mono ?_
  rintro e w2 ⟨rfl,hb2⟩
  obtain ⟨h8,h9⟩:=HB.out w2 hb2
  have HH8:=Qaa h8
  have HH9:=Qaa h9
  clear h8 h9 hb2
  go_wp2
  go_ret
  refine ⟨?_,HH9.out⟩
  show Qlr X ro (E (Q (!decide (N=0)))) w2
  rw [HE.out]
  by_cases h0:N=0
  ·rw [if_neg (fun h=>h h0),decide_eq_true h0]; rfl
  ·rw [if_pos h0,decide_eq_false h0]; exact ⟨rfl,HH8.out⟩
 ·have HE:Hid (Qa1 65 bs c=I):=by show _=_; rw [e65,if_neg (fun h=>h4 h.1)]
  generalize Qa1 65 bs c=ro at *
  clear hr hx e65
  generalize bs.length=n at *
  have h4i:((n:Int) != 4)=true:=by simp; omega
  clear h4
  go_enter Tryz.func87,Tryz.ntmps87
  go_wp2
  go_ret
  exact ⟨Quu _ _ _ HE.out,Qae.refl _ _⟩
theorem Qu7 (N:Nat):N &&& 32768=if N.testBit 15 then 32768 else 0:=by
 have e:(32768:Nat)=2 ^ 15:=rfl
 apply Nat.eq_of_testBit_eq
 intro j
 rw [Nat.testBit_and]
 by_cases hj:j=15
 ·subst hj
  cases h:N.testBit 15 with
  | false=>simp
  | true=>simp
 ·have h2:Nat.testBit 32768 j=false:=by rw [e]; exact Nat.testBit_two_pow_of_ne (Ne.symm hj)
  rw [h2,Bool.and_false]
  split
  ·exact h2.symm
  ·simp
theorem Qwt (N:Nat)(h:N < 65536):(bits .and .i64 (N:Int) 32768 != 0)=decide (128≤N / 256):=by
 have e:bits .and .i64 (N:Int) 32768=((N &&& 32768:Nat):Int):=Jac N 32768 (by omega) (by omega)
 rw [e,Qu7,Nat.testBit_eq_decide_div_mod_eq]
 simp only [Nat.reducePow]
 by_cases hb:N / 32768 % 2=1
 ·rw [decide_eq_true hb,decide_eq_true (show 128≤N / 256 by omega)]; rfl
 ·rw [decide_eq_false hb,decide_eq_false (show ¬ 128≤N / 256 by omega)]; rfl
theorem Qy2 (N:Nat)(h:N < 65536):bits .and .i64 (N:Int) 4095=((N % 4096:Nat):Int):=by
 have e:bits .and .i64 (N:Int) 4095=((N &&& 4095:Nat):Int):=Jac N 4095 (by omega) (by omega)
 rw [e,show N &&& 4095=N % 4096 from Nat.and_two_pow_sub_one_eq_mod N 12]
theorem Qu9 (x:Nat)(h:x < 256):(bits .and .u8 (x:Int) 128 != 0)=decide (128≤x):=by
 have e:bits .and .u8 (x:Int) ((128:Nat):Int)=((x &&& 128:Nat):Int):=(bits_nat .u8 8 (by decide) (fun n h0 h1=>by rw [IntKind.wrap_u8]; simp only [Int.reducePow] at h1; omega) _ _ (by simpa using h) (by decide)).1
 have e2:bits .and .u8 (x:Int) 128=((x &&& 128:Nat):Int):=e
 rw [e2]
 have key:∀ y:Fin 256,((((y:Nat) &&& 128:Nat):Int) != 0)=decide (128≤(y:Nat)):=by decide +kernel
 exact key ⟨x,h⟩
theorem Qvo (bs:List Nat)(h:2≤bs.length):Qcn (bs.take 2)=bs.getD 0 0 * 256+bs.getD 1 0:=by
 match bs,h with
 | a :: b :: _,_=>simp [Qcn]
def w3s (w:World)(X:Nat)(rs:Bool)(tm:Int):World:=((w.setCell ⟨X,2,I⟩ (Q true)).setCell ⟨X,3,I⟩ (Q rs)).setCell ⟨X,4,I⟩ (L .i64 tm)
theorem Qt9 (w:World)(X:Nat)(rs:Bool)(tm:Int):Qae (fun b=>b=X) w (w3s w X rs tm) :=
 (((Qae.refl (fun b=>b=X) w).setCell X 2 _ (.inl rfl)).setCell X 3 _ (.inl rfl)).setCell X 4 _ (.inl rfl)
theorem Qzh {w:World}{X:Nat}{c:Cp} (h:Qeg w X c) (rs:Bool) (tm:Int):Qeg (w3s w X rs tm) X { c with gr:=true,rs:=rs,tm:=tm }:=by
 obtain ⟨x0,x1,x2,x3,x4,x5,x6,x7,x8⟩:=h.cells
 have k:∀ j v,w.cell? ⟨X,j,I⟩=J v→(w3s w X rs tm).cell? ⟨X,j,I⟩=J (if 4=j then L .i64 tm else if 3=j then Q rs else if 2=j then Q true else v):=fun j v h=>Qdh _ X 4 _ j _ (Qdh _ X 3 _ j _ (Qdh _ X 2 _ j _ h))
 exact ⟨⟨k 0 _ x0,k 1 _ x1,k 2 _ x2,k 3 _ x3,k 4 _ x4,k 5 _ x5,k 6 _ x6,k 7 _ x7,k 8 _ x8⟩,fun j=>by unfold w3s; rw [World.frozen?_setCell,World.frozen?_setCell,World.frozen?_setCell]; exact h.free j⟩
theorem Qjv {w:World}{X:Nat}{c:Cp} (h:Qeg w X c) (fam fwd:Bool):Qeg ((w.setCell ⟨X,5,I⟩ (Q fam)).setCell ⟨X,6,I⟩ (Q fwd)) X { c with fam:=fam,fwd:=fwd }:=by
 obtain ⟨x0,x1,x2,x3,x4,x5,x6,x7,x8⟩:=h.cells
 have k:∀ j v,w.cell? ⟨X,j,I⟩=J v→((w.setCell ⟨X,5,I⟩ (Q fam)).setCell ⟨X,6,I⟩ (Q fwd)).cell? ⟨X,j,I⟩=J (if 6=j then Q fwd else if 5=j then Q fam else v):=fun j v h=>Qdh _ X 6 _ j _ (Qdh _ X 5 _ j _ h)
 exact ⟨⟨k 0 _ x0,k 1 _ x1,k 2 _ x2,k 3 _ x3,k 4 _ x4,k 5 _ x5,k 6 _ x6,k 7 _ x7,k 8 _ x8⟩,fun j=>by rw [World.frozen?_setCell,World.frozen?_setCell]; exact h.free j⟩
theorem Qzn (X:Nat)(a:Option Addr)(n cap:Nat)(w:World)(h:n % 4≠2)(hl:n≤10000):Calls K 88 #[.pointer (J ⟨X,0,I⟩),V a n cap] w fun e w'=>e=E (Q false)∧w'=w:=by
 by_cases h2:n < 2
 ·have h2i:((n:Int) < 2):=by omega
  clear h
  go_enter Tryz.func88,Tryz.ntmps88
  go_wp2
  go_ret
  exact ⟨rfl,rfl⟩
 ·have h2i:decide ((n:Int) < 2)=false:=decide_eq_false (by omega)
  obtain ⟨m,rfl⟩:∃ m,n=m+2:=⟨n - 2,by omega⟩
  have hm:((m:Int) % 4 != 0)=true:=by
   simp
   omega
  clear h h2
  go_enter Tryz.func88,Tryz.ntmps88
  go_wp2
  go_ret
  exact ⟨rfl,rfl⟩
theorem Qwe (X:Nat)(c:Cp)(a:Option Addr)(cap:Nat)(bs:List Nat)(w:World)(hx:Qeg w X c)(hr:BRd w a bs)(hne:∀ x,a=J x→0 < bs.length→x.block≠X)(hl:bs.length≤10000)(hcap:bs.length≤cap)(h:bs.length % 4=2) :
  Calls K 88 #[.pointer (J ⟨X,0,I⟩),V a bs.length cap] w fun e w'=>Qlr X (J (Qls bs c)) e w'∧Qae (fun b=>b=X) w w':=by
 obtain ⟨b,o,rfl,hc⟩:=hr.1.2 (by omega)
 have hbX:b≠X:=hne ⟨b,o,I⟩ rfl (by omega)
 obtain ⟨N,hN⟩:∃ N,N=Qcn (bs.take 2):=⟨_,rfl⟩
 have hN2:=Qvo bs (by omega)
 rw [← hN] at hN2
 have g0:=Qau hr.2 0
 have g1:=Qau hr.2 1
 have hNlt:N < 65536:=by omega
 have HN:=Qaa (Qju b o 2 cap (bs.take 2) w (by rw [List.length_take]; omega) (by omega) (Qj7 hr.2 2) (fun i hi=>by
  have h9:w.cell? ⟨b,o+i,I⟩=J (L .u8 (bs.getD i 0:Int)):=hc i (by omega)
  rw [h9,Z,Z,List.getElem?_take_of_lt hi]))
 rw [← hN] at HN
 have hhi:=Qwt N hNlt
 have hlo:=Qy2 N hNlt
 obtain ⟨R,hR⟩:∃ R,R=decide (128≤N / 256):=⟨_,rfl⟩
 obtain ⟨T,hT⟩:∃ T,T=N % 4096:=⟨_,rfl⟩
 have hR2:R=decide (128≤bs.getD 0 0):=by rw [hR,hN2]; congr 1; rw [eq_iff_iff]; omega
 have hT2:T=bs.getD 0 0 % 16 * 256+bs.getD 1 0:=by rw [hT,hN2]; omega
 rw [← hR] at hhi
 rw [← hT] at hlo
 have HP:Hid (∀ fam fwd,fam=(Qf4 4 (bs.drop 2)).isSome→fwd=Qnr (Qf4 4 (bs.drop 2))→({ ({ c with gr:=true,rs:=R,tm:=(T:Int) } : Cp) with fam:=fam,fwd:=fwd } : Cp)=Qls bs c):=fun fam fwd h1 h2=>by
  subst h1 h2
  rw [hR2,hT2]; rfl
 have HK3:=Qaa (Qt9 w X R (T:Int))
 have HX3:=Qaa (Qzh hx R (T:Int))
 have hr3:BRd (w3s w X R (T:Int)) (J ⟨b,o,I⟩) bs:=hr.keeps HK3.out (fun x e _=>by cases e; exact hbX)
 have hdl:(bs.drop 2).length=bs.length - 2:=U ..
 have HF:Hid (∀ a2 c2,(a2=J ⟨b,o,I⟩∧cap=2∧c2=0∨a2=J ⟨b,o+2,I⟩∧c2=cap - 2)→Calls K 120 #[V a2 (bs.length - 2) c2,L .i64 4] (w3s w X R (T:Int)) fun e w'=>Qky (w3s w X R (T:Int)) X 4 (Qf4 4 (bs.drop 2)) e∧w'=w3s w X R (T:Int)):=fun a2 c2 hh=>by
  have h1:=Qqa X a2 c2 (bs.drop 2) 4 (w3s w X R (T:Int)) (by omega) (by omega) (by omega) (by omega) ?_ ?_
  ·rw [hdl] at h1; exact h1
  ·rcases hh with ⟨rfl,h2,rfl⟩ | ⟨rfl,rfl⟩
   ·have h0:bs.drop 2=[]:=List.drop_eq_nil_of_le (by omega)
    rw [h0]
    exact ⟨Rw.nil _ _ _,by simp⟩
   ·refine ⟨⟨by unfold maxLen; omega,fun hp=>⟨b,o+2,rfl,fun i hi=>?_⟩⟩,fun x hx=>hr.2 x (List.mem_of_mem_drop hx)⟩
    have h9:(w3s w X R (T:Int)).cell? ⟨b,o+(2+i),I⟩=J (L .u8 (bs.getD (2+i) 0:Int)):=by
     obtain ⟨b9,o9,e9,h8⟩:=hr3.1.2 (by omega)
     cases e9
     exact h8 (2+i) (by omega)
    rw [← Nat.add_assoc] at h9
    show _=J (Value.int .u8 (((bs.drop 2).getD i 0:Nat):Int))
    rw [h9,Z,Z,List.getElem?_drop]
  ·intro x hx _
   rcases hh with ⟨rfl,_,_⟩ | ⟨rfl,_⟩ <;> (cases hx; exact hbX)
 have HX:=Qaa hx
 have hXs:=hx.size
 have hbs:=Y w _ (hc 0 (by omega))
 simp only at hbs
 obtain ⟨x0,x1,x2,x3,x4,x5,x6,x7,x8⟩:=hx.cells
 have f2:=hx.free 2
 have f3:=hx.free 3
 have f4:=hx.free 4
 have f5:=hx.free 5
 have f6:=hx.free 6
 generalize Qls bs c=pc at *
 generalize hfu0:Qf4 4 (bs.drop 2)=fu at *
 obtain ⟨m,hm⟩:∃ m,bs.length=m+2:=⟨bs.length - 2,by omega⟩
 rw [hm] at HF hcap hl h
 rw [hm]
 simp only [Nat.add_sub_cancel] at HF
 have hmi:((m:Int) % 4 != 0)=false:=by simp; omega
 clear hne hr3 hr hc hR hT hR2 hT2 hx g0 g1 hN hN2 hdl hm hfu0 h
 obtain ⟨four,as4,gr,rs,tm,fam,fwd,ll,lt⟩:=c
 simp only at *
 by_cases hc2:cap=2
 ·have HF1:=Qaa (HF.out (J ⟨b,o,I⟩) 0 (.inl ⟨rfl,hc2,rfl⟩))
  have hm0:m=0:=by omega
  subst hm0
  subst hc2
  clear HF
  unfold w3s at *
  go_enter Tryz.func88,Tryz.ntmps88
  go_wp2_with fail
  refine HN.out.mono ?_
  rintro e w1 ⟨rfl,rfl⟩
  go_wp2_with fail
  refine HF1.out.mono ?_
  rintro e w2 ⟨hu,hw2⟩
  rw [← hw2] at HX3 HK3 hu
  clear hw2 x0 x1 x2 x3 x4 x5 x6 x7 x8 f2 f3 f4 f5 f6 HF1 HN HX
  have hXs2:=HX3.out.size
  obtain ⟨x0,x1,x2,x3,x4,x5,x6,x7,x8⟩:=HX3.out.cells
  have f5:=HX3.out.free 5
  have f6:=HX3.out.free 6
  simp only at x0 x1 x2 x3 x4 x5 x6 x7 x8
  cases fu with
  | none =>
   obtain rfl:e=_:=hu
   have HB:=Qaa (Qjv HX3.out false false)
   have HQ:=Qaa (HP.out false false rfl rfl)
   go_wp2
   go_ret
   refine ⟨Qf2 rfl ?_,(HK3.out.setCell X 5 _ (.inl rfl)).setCell X 6 _ (.inl rfl)⟩
   rw [← HQ.out]; exact HB.out
  | some u =>
   obtain ⟨b2,o2,k2,rfl,hb2,hk2,hu4,hu256,hcu⟩:=hu
   have y3:=hcu 3 (by omega)
   have h128:=Qu9 (u.getD 3 0) (Qau hu256 3)
   have HB:=Qaa (Qjv HX3.out true (decide (128≤u.getD 3 0)))
   have HQ:=Qaa (HP.out true (decide (128≤u.getD 3 0)) rfl rfl)
   obtain ⟨F,hF⟩:∃ F,F=decide (128≤u.getD 3 0):=⟨_,rfl⟩
   rw [← hF] at h128 HB HQ
   generalize u.getD 3 0=z at *
   have z3:(w2.setCell ⟨X,5,I⟩ (Q true)).cell? ⟨b2,o2+3,I⟩=J (L .u8 (z:Int)):=by
    rw [World.cell?_setCell_other _ _ _ _ (by intro e9; injection e9 with e2 _ _; exact hb2 e2.symm)]
    exact y3
   have hz2:b2 < w2.heap.size:=by have:=Y w2 _ y3; simpa using this
   clear hF hu4 hu256 hcu
   go_wp2
   go_ret
   refine ⟨Qf2 rfl ?_,(HK3.out.setCell X 5 _ (.inl rfl)).setCell X 6 _ (.inl rfl)⟩
   rw [← HQ.out]; exact HB.out
 ·have HF1:=Qaa (HF.out (J ⟨b,o+2,I⟩) (cap - 2) (.inr ⟨rfl,rfl⟩))
  clear HF
  unfold w3s at *
  go_enter Tryz.func88,Tryz.ntmps88
  go_wp2_with fail
  refine HN.out.mono ?_
  rintro e w1 ⟨rfl,rfl⟩
  go_wp2_with fail
  refine HF1.out.mono ?_
  rintro e w2 ⟨hu,hw2⟩
  rw [← hw2] at HX3 HK3 hu
  clear hw2 x0 x1 x2 x3 x4 x5 x6 x7 x8 f2 f3 f4 f5 f6 HF1 HN HX
  have hXs2:=HX3.out.size
  obtain ⟨x0,x1,x2,x3,x4,x5,x6,x7,x8⟩:=HX3.out.cells
  have f5:=HX3.out.free 5
  have f6:=HX3.out.free 6
  simp only at x0 x1 x2 x3 x4 x5 x6 x7 x8
  cases fu with
  | none =>
   obtain rfl:e=_:=hu
   have HB:=Qaa (Qjv HX3.out false false)
   have HQ:=Qaa (HP.out false false rfl rfl)
   go_wp2
   go_ret
   refine ⟨Qf2 rfl ?_,(HK3.out.setCell X 5 _ (.inl rfl)).setCell X 6 _ (.inl rfl)⟩
   rw [← HQ.out]; exact HB.out
  | some u =>
   obtain ⟨b2,o2,k2,rfl,hb2,hk2,hu4,hu256,hcu⟩:=hu
   have y3:=hcu 3 (by omega)
   have h128:=Qu9 (u.getD 3 0) (Qau hu256 3)
   have HB:=Qaa (Qjv HX3.out true (decide (128≤u.getD 3 0)))
   have HQ:=Qaa (HP.out true (decide (128≤u.getD 3 0)) rfl rfl)
   obtain ⟨F,hF⟩:∃ F,F=decide (128≤u.getD 3 0):=⟨_,rfl⟩
   rw [← hF] at h128 HB HQ
   generalize u.getD 3 0=z at *
   have z3:(w2.setCell ⟨X,5,I⟩ (Q true)).cell? ⟨b2,o2+3,I⟩=J (L .u8 (z:Int)):=by
    rw [World.cell?_setCell_other _ _ _ _ (by intro e9; injection e9 with e2 _ _; exact hb2 e2.symm)]
    exact y3
   have hz2:b2 < w2.heap.size:=by have:=Y w2 _ y3; simpa using this
   clear hF hu4 hu256 hcu
   go_wp2
   go_ret
   refine ⟨Qf2 rfl ?_,(HK3.out.setCell X 5 _ (.inl rfl)).setCell X 6 _ (.inl rfl)⟩
   rw [← HQ.out]; exact HB.out
theorem Qyt (X:Nat)(c:Cp)(a:Option Addr)(cap:Nat)(bs:List Nat)(w:World)(hx:Qeg w X c)(hr:BRd w a bs)(hne:∀ x,a=J x→0 < bs.length→x.block≠X)(hl:bs.length≤10000)(hcap:bs.length≤cap) :
  Calls K 88 #[.pointer (J ⟨X,0,I⟩),V a bs.length cap] w fun e w'=>Qlr X (Qa1 64 bs c) e w'∧Qae (fun b=>b=X) w w':=by
 have e64:Qa1 64 bs c=if bs.length % 4=2 then J (Qls bs c) else I:=by unfold Qa1; rw [if_neg (by omega),if_pos rfl]
 rw [e64]
 by_cases h:bs.length % 4=2
 ·rw [if_pos h]; exact Qwe X c a cap bs w hx hr hne hl hcap h
 ·rw [if_neg h]
  refine (Qzn X a bs.length cap w h hl).mono fun e w' ⟨h1,h2⟩=>⟨?_,by rw [h2]; exact Qae.refl _ _⟩
  rw [h1]; rfl
