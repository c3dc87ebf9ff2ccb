import Derived.Test.YtdojlejehjbliaaGreatDoorPA15
import Derived.Test.YtdojlejehjbliaaGreatDoorPA16
import Derived.Shelf.SlSortCmp.NoneTotal
namespace Go.Proofs.YtdojlejehjbliaaGreatDoor
set_option maxHeartbeats 4000000
set_option linter.unnecessarySimpa false
open _root_.Option renaming some → I,none → Z
open _root_.Nat renaming le_refl → J
open _root_.Go.Value renaming slice → V,int → Q
open _root_.Go.IntKind renaming i64 → Y
open _root_.Go.Proofs.Tryz renaming prog → U
open _root_.Go.World renaming block_lt_of_cell? → X
open _root_.List renaming getD_eq_getElem?_getD → E
open _root_.Go.RowKit.Below renaming refl → D
open Go.RowKit
set_option maxRecDepth 100000
theorem Tryz.infoRaw:(U.info? 102).map (fun i=>(i.zero,i.size,i.bytes))=I (I (.agg #[Q Y 0,Q Y 0,V Z 0 0]),3,40):=by kernel_rfl
theorem Tryz.infoU32:(U.info? 24).map (fun i=>(i.zero,i.size,i.bytes))=I (I (Q .u32 0),1,4):=by kernel_rfl
theorem elemRaw:Qsr 32 102 3 40:=by
 obtain ⟨i,h1,h2,h3,h4⟩:=Qcz Tryz.infoRaw
 exact ⟨Tryz.underlying32,⟨i,_,h1,h2,h3,h4,rfl⟩,by omega,by omega⟩
theorem elemU32:Qsr 31 24 1 4:=by
 obtain ⟨i,h1,h2,h3,h4⟩:=Qcz Tryz.infoU32
 exact ⟨Tryz.underlying31,⟨i,_,h1,h2,h3,h4,rfl⟩,by omega,by omega⟩
def Qbr (w:World)(B:Nat)(v:Value)(rs:List (Int×Int×List Nat)):Prop :=
 ∃ cs,w.ownsRow B 102 3 v rs.length cs∧∀ i r,rs[i]?=I r→cs[i * 3]?=I (Q Y r.1)∧cs[i * 3+1]?=I (Q Y r.2.1)∧∃ u,cs[i * 3+2]?=I u∧w.ownsRow B 5 1 u r.2.2.length (Qal r.2.2)
theorem Qbr.later {w w':World}{B:Nat}{v:Value}{rs:List (Int×Int×List Nat)} (h:Qbr w B v rs) (hb:Below w.heap.size w w'):Qbr w' B v rs:=by
 obtain ⟨cs,ho,hc⟩:=h
 refine ⟨cs,Qaq ho hb,fun i r hi=>?_⟩
 obtain ⟨h1,h2,u,h3,h4⟩:=hc i r hi
 exact ⟨h1,h2,u,h3,Qaq h4 hb⟩
theorem Qbr.nil (w:World)(B:Nat):Qbr w B (V Z 0 0) []:=⟨[],Qbm _ _ _ _,fun i s h=>by simp at h⟩
theorem Qbr.base {w:World}{B B':Nat}{v:Value}{rs:List (Int×Int×List Nat)} (h:Qbr w B v rs) (hB:B'≤B):Qbr w B' v rs:=by
 obtain ⟨cs,ho,hc⟩:=h
 refine ⟨cs,Qan ho hB,fun i r hi=>?_⟩
 obtain ⟨h1,h2,u,h3,h4⟩:=hc i r hi
 exact ⟨h1,h2,u,h3,Qan h4 hB⟩
theorem Qbr.rd {w:World}{B:Nat}{v:Value}{rs:List (Int×Int×List Nat)} (h:Qbr w B v rs) (hs:∀ r∈rs,r.2.2.length≤500000∧∀ x∈r.2.2,x < 256):∃ a c,v=V a rs.length c∧Qpf w a rs:=by
 obtain ⟨cs,ho,hc⟩:=h
 have hh:=ho
 rcases ho.2 with ⟨rfl,h0⟩ | ⟨g,cap,cur,rfl,_⟩
 ·exact ⟨Z,0,by rw [h0],fun hp=>absurd hp (by omega)⟩
 ·refine ⟨_,_,rfl,fun _=>⟨g,0,rfl,fun i r hi=>?_⟩⟩
  have hil:=(List.getElem?_eq_some_iff.1 hi).1
  obtain ⟨h1,h2,u,h3,h4⟩:=hc i r hi
  obtain ⟨q1,q2⟩:=hs r (List.mem_of_getElem? hi)
  obtain ⟨a',c',rfl,h5,h6⟩:=Qic h4 q1 q2
  rw [Nat.zero_add,hh.cellAt (i * 3) (by omega),hh.cellAt (i * 3+1) (by omega),hh.cellAt (i * 3+2) (by omega)]
  exact ⟨h1,h2,a',c',h3,h5,h6⟩
def Qb8 (l:List Nat):List Value:=l.map fun (x:Nat)=>Value.int .u32 (x:Int)
theorem Qr9 (l r:List Nat):Qb8 (l++r)=Qb8 l++Qb8 r:=by simp [Qb8]
theorem Qft (l:List Nat):(Qb8 l).length=l.length:=by simp [Qb8]
theorem Qzl {w:World}{B:Nat}{v:Value}{cs:List Nat} (h:w.ownsRow B 24 1 v cs.length (Qb8 cs)):∃ a c,v=V a cs.length c∧CRd w a cs:=by
 have hh:=h
 rcases h.2 with ⟨rfl,h0⟩ | ⟨g,cap,cur,rfl,_⟩
 ·exact ⟨Z,0,by rw [h0],fun hp=>absurd hp (by omega)⟩
 ·refine ⟨_,_,rfl,fun _=>⟨g,0,rfl,fun j z hj=>?_⟩⟩
  have hjl:=(List.getElem?_eq_some_iff.1 hj).1
  rw [Nat.zero_add,hh.cellAt j (by omega)]
  simp [Qb8,hj]
abbrev RE:Type:=Int×Int×Option Addr×Nat×Nat
def Qjw (x:RE):List Value:=[Q Y x.1,Q Y x.2.1,V x.2.2.1 x.2.2.2.1 x.2.2.2.2]
def cfE (x y:RE):Int:=if x.2.1 < y.2.1 then -1 else if y.2.1 < x.2.1 then 1 else 0
theorem ltE (x y:RE):ltOf cfE x y=decide (x.2.1 < y.2.1):=by
 unfold ltOf cfE
 by_cases h1:x.2.1 < y.2.1
 ·simp [h1]
 ·by_cases h2:y.2.1 < x.2.1 <;> simp [h1,h2]
theorem swoE:Sort.SWO (ltOf cfE) where
 irrefl x:=by rw [ltE]; simp
 trans x y z h1 h2:=by rw [ltE] at *; simp at *; omega
 ntrans x y z h1 h2:=by rw [ltE] at *; simp at *; omega
theorem Qrv (x y:RE)(w:World):Calls U 70 #[.agg (Qjw x).toArray,.agg (Qjw y).toArray] w fun e w'=>e=.returned (Q Y (cfE x y))∧∃ q os',w'=Sort.grow (w.drewN q) os':=by
 have K:=Qaa (fun W=>Qvn x.2.1 y.2.1 W)
 have hr:cfE x y=(if x.2.1 < y.2.1 then -1 else if y.2.1 < x.2.1 then 1 else 0):=rfl
 rw [hr]
 generalize (if x.2.1 < y.2.1 then (-1:Int) else if y.2.1 < x.2.1 then 1 else 0)=r at *
 obtain ⟨xf,xt,xa,xn,xc⟩:=x
 obtain ⟨yf,yt,ya,yn,yc⟩:=y
 simp only [Qjw] at *
 go_enter Tryz.func70,Tryz.ntmps70
 go_wp2_with fail
 refine (K.out _).mono ?_
 rintro e w' ⟨rfl,rfl⟩
 go_wp2
 go_ret
 exact ⟨rfl,0,_,by rw [Sort.alloc_eq_grow,Sort.alloc_eq_grow,Sort.grow_grow]; rfl⟩
def Qxf (cs:List Value)(d:List RE):Prop:=∀ i x,d[i]?=I x→cs[i * 3]?=I (Q Y x.1)∧cs[i * 3+1]?=I (Q Y x.2.1)∧cs[i * 3+2]?=I (V x.2.2.1 x.2.2.2.1 x.2.2.2.2)
theorem isAggRaw:∀ w,(isAgg 102).run U w=.ok true w:=Tryz.isAgg102
theorem sizeOfRaw:∀ w,(Go.sizeOf 102).run U w=.ok 3 w:=Tryz.sizeOf102
theorem Jcg (d:Array RE)(i:Nat)(h:i < d.size):d.toList[i]?=I d[i]!:=by
 rw [Array.getElem?_toList,Array.getElem?_eq_getElem h,getElem!_pos d i h]
theorem Jcf (d:Array RE)(i:Nat)(x:RE)(h:d.toList[i]?=I x):(Sort.flatK Qjw 3 d).toList[i * 3]?=I (Q Y x.1)∧(Sort.flatK Qjw 3 d).toList[i * 3+1]?=I (Q Y x.2.1)∧(Sort.flatK Qjw 3 d).toList[i * 3+2]?=I (V x.2.2.1 x.2.2.2.1 x.2.2.2.2):=by
 have hi:i < d.size:=by have:=(List.getElem?_eq_some_iff.1 h).1; simpa using this
 have hx:d[i]! = x:=by have:=Jcg d i hi; rw [h] at this; exact (Option.some.inj this).symm
 have key:∀ q,q < 3→(Sort.flatK Qjw 3 d).toList[i * 3+q]?=I ((Qjw x)[q]!):=by
  intro q hq
  have hlt:i * 3+q < d.size * 3:=by omega
  rw [Array.getElem?_toList,Array.getElem?_eq_getElem (by rw [Sort.size_flatK]; exact hlt)]
  have h9:=Sort.get_flatK Qjw 3 d (i * 3+q) hlt
  rw [getElem!_pos _ _ (by rw [Sort.size_flatK]; exact hlt),show (i * 3+q) / 3=i from by omega,show (i * 3+q) % 3=q from by omega,hx] at h9
  rw [h9]
 exact ⟨key 0 (by omega),key 1 (by omega),key 2 (by omega)⟩
theorem Ja9 {w:World}{B g n c:Nat}{cs:List Value}{d:Array RE} (ho:w.ownsRow B 102 3 (V (I ⟨g,0,Z⟩) n c) n cs) (hd:d.size=n) (hR:Qxf cs d.toList):Sort.HoldsK Qjw 3 w g 0 d:=by
 intro j hj
 rw [Sort.size_flatK] at hj
 have hi:j / 3 < d.size:=by omega
 obtain ⟨h0,h1,h2⟩:=hR (j / 3) _ (Jcg d (j / 3) hi)
 refine ⟨?_,by rw [Nat.zero_add]; exact ho.frozenAt j⟩
 rw [Nat.zero_add,ho.cellAt j (by omega)]
 show _=I (Sort.flatK Qjw 3 d)[j]!
 rw [Sort.get_flatK Qjw 3 d j hj]
 have e:j % 3=0∨j % 3=1∨j % 3=2:=by omega
 rcases e with e | e | e
 ·rw [e,show j=j / 3 * 3 from by omega,h0,show j / 3 * 3 / 3=j / 3 from by omega]; rfl
 ·rw [e,show j=j / 3 * 3+1 from by omega,h1,show (j / 3 * 3+1) / 3=j / 3 from by omega]; rfl
 ·rw [e,show j=j / 3 * 3+2 from by omega,h2,show (j / 3 * 3+2) / 3=j / 3 from by omega]; rfl
theorem Qxj (F cur:Array Value)(h:F.size≤cur.size):(Sort.putCells id 0 F cur).toList.take F.size=F.toList:=by
 apply List.ext_getElem?
 intro k
 rw [List.getElem?_take]
 by_cases hk:k < F.size
 ·rw [if_pos hk,Array.getElem?_toList,Array.getElem?_toList]
  unfold Sort.putCells
  rw [Array.getElem?_mapIdx,Array.getElem?_eq_getElem (show k < cur.size by omega),Array.getElem?_eq_getElem hk]
  simp only [Option.map_some,Nat.zero_le,Nat.zero_add,true_and,hk,if_true,id,Nat.sub_zero]
  rw [getElem!_pos F k hk]
 ·rw [if_neg hk,Array.getElem?_toList,Array.getElem?_eq_none (by omega)]
theorem Qv1 (d:List RE)(B g n c:Nat)(cs:List Value)(w:World)(ho:w.ownsRow B 102 3 (V (I ⟨g,0,Z⟩) n c) n cs)(hd:d.length=n)(hR:Qxf cs d)(hn:n≤100000) :
  Calls U 69 #[V (I ⟨g,0,Z⟩) n c,.func (.func 70) #[] #[]] w fun e w'=>e=.returned (.tuple #[])∧∃ d' cs',d'.Perm d∧(d'.Pairwise fun x y=>x.2.1≤y.2.1)∧w'.ownsRow B 102 3 (V (I ⟨g,0,Z⟩) n c) n cs'∧Qxf cs' d'∧Qae (fun b=>b=g) w w':=by
 have hsz:d.toArray.size=n:=by simpa using hd
 have eg:∀ args w,(callFunc 70 args).run U w=.ok (.enter 70 args) w:=enters_of Tryz.func70 (by kernel_rfl) rfl
 have hH:Sort.HoldsK Qjw 3 w g 0 d.toArray:=Ja9 ho hsz (by simpa using hR)
 obtain ⟨cur,hg,hgb,hcap,hmax,hcs,htk⟩:∃ cur,w.heap[g]?=I (.cells cur 102 (0,0))∧B≤g∧n≤c∧c≤maxLen∧cur.size=c * 3∧cur.toList.take (n * 3)=cs:=by
  rcases ho.2 with ⟨e,_⟩ | ⟨g',cap,cur,e,h1,h2,h3,h4,h5,h6⟩
  ·cases e
  ·simp only [Value.slice.injEq,Option.some.injEq,Addr.mk.injEq,and_true,true_and] at e
   obtain ⟨rfl,rfl⟩:=e
   exact ⟨cur,h2,h1,h3,h4,h5,h6⟩
 have hgl:g < w.heap.size:=(Array.getElem?_eq_some_iff.1 hg).1
 have hcon:=AnyQ.slices_SortFunc sortR 3 isAggRaw sizeOfRaw Qjw (fun _=>rfl) (fun x v hv=>by simp [Qjw] at hv; rcases hv with rfl | rfl | rfl <;> rfl) cfE swoE 70 #[] g 0 c d.toArray w eg (fun m os dk _ x y=>Qrv x y _) hH hgl (by rw [hsz]; omega)
 rw [hsz] at hcon
 refine Calls.mono hcon ?_
 rintro e w' ⟨rfl,d',m,os,hp,hs,rfl⟩
 have hd':d'.size=n:=by rw [hp.1,hsz]
 have hF:(Sort.flatK Qjw 3 d').size=n * 3:=by rw [Sort.size_flatK,hd']
 have hheap:(sortWorldK Qjw 3 w g 0 m d' os).heap[g]?=I (.cells (Sort.putCells id 0 (Sort.flatK Qjw 3 d') cur) 102 (0,0)):=by
  unfold sortWorldK
  rw [Sort.heap_grow_old _ _ (by show g < (Sort.putRowK Qjw 3 (Sort.ahead w m) g 0 d').heap.size; rw [Sort.size_putRowK]; exact hgl)]
  show ((w.heap.modify g (Sort.onCells (Sort.putCells id 0 (Sort.flatK Qjw 3 d')))))[g]?=_
  rw [Array.getElem?_modify,if_pos rfl,hg]
  rfl
 refine ⟨rfl,d'.toList,(Sort.flatK Qjw 3 d').toList,?_,?_,?_,fun i x hx=>Jcf d' i x hx,?_⟩
 ·have h9:=hp.2.2
  rw [← hsz] at h9
  have e1:d'.extract 0 d.toArray.size=d':=by rw [hsz,← hd']; simp
  have e2:d.toArray.extract 0 d.toArray.size=d.toArray:=by simp
  rw [e1,e2] at h9
  simpa using h9
 ·rw [List.pairwise_iff_getElem]
  intro i j hi hj hij
  have h9:=hs i j (Nat.zero_le _) hij (by rw [← hd']; simpa using hj)
  rw [ltE,getElem!_pos d' j (by simpa using hj),getElem!_pos d' i (by simpa using hi)] at h9
  simp only [decide_eq_false_iff_not,Int.not_lt] at h9
  simpa using h9
 ·refine ⟨by rw [Array.length_toList,hF],.inr ⟨g,c,_,rfl,hgb,hheap,hcap,hmax,?_,?_⟩⟩
  ·unfold Sort.putCells; rw [Array.size_mapIdx,hcs]
  ·rw [← hF]; exact Qxj _ _ (by rw [hF,hcs]; omega)
 ·refine ⟨rfl,rfl,rfl,size_sortWorldK_c Qjw 3 w g 0 m d' os,fun k hk hne=>?_⟩
  unfold sortWorldK
  rw [Sort.heap_grow_old _ _ (by rw [Sort.size_putRowK]; exact hk)]
  show ((w.heap.modify g (Sort.onCells (Sort.putCells id 0 (Sort.flatK Qjw 3 d')))))[k]?=_
  rw [Array.getElem?_modify,if_neg (fun e=>hne e.symm)]
theorem Qsz (p:Option Addr)(c:Nat)(w:World):Calls U 69 #[V p 0 c,.func (.func 70) #[] #[]] w fun e w'=>e=.returned (.tuple #[])∧w'=w :=
 AnyF.slices_SortFunc_none sortR p c _ w
theorem Qrd (x:Nat)(h:x < 256):(bits .and .u8 (x:Int) 16 != 0)=decide (x / 16 % 2=1):=by
 have e:bits .and .u8 (x:Int) ((16:Nat):Int)=((x &&& 16:Nat):Int):=(bits_nat .u8 8 (by decide) (fun n h0 h1=>by rw [IntKind.wrap_u8]; simp only [Int.reducePow] at h1; omega) _ _ (by simpa using h) (by decide)).1
 have e2:bits .and .u8 (x:Int) 16=((x &&& 16:Nat):Int):=e
 rw [e2]
 have key:∀ y:Fin 256,((((y:Nat) &&& 16:Nat):Int) != 0)=decide ((y:Nat) / 16 % 2=1):=by decide +kernel
 exact key ⟨x,h⟩
theorem Qx8 (b o m c:Nat)(b0 b1 s:Nat)(w:World)(hmc:m≤c)(hm2:m≤20000)(h0:b0 < 256)(h1:b1 < 256)(hs:s < 256)(hx:b0 / 16 % 2=0)(hfit:3+s≤m)
  (c0:w.cell? ⟨b,o,Z⟩=I (Q .u8 (b0:Int))) (c1:w.cell? ⟨b,o+1,Z⟩=I (Q .u8 (b1:Int))) (c2:w.cell? ⟨b,o+2,Z⟩=I (Q .u8 (s:Int))) :
  Calls U 66 #[V (I ⟨b,o,Z⟩) m c] w fun e w'=>∃ a1 k1 a3 k3,e=.returned (.tuple #[Qcb (b0:Int) (b1:Int) a1 s k1 (I ⟨b,o,Z⟩) (3+s) c,V a3 (m - (3+s)) k3])∧(0 < s→a1=I ⟨b,o+3,Z⟩)∧s≤k1∧(3+s < m→a3=I ⟨b,o+(3+s),Z⟩)∧m - (3+s)≤k3∧Below w.heap.size w w':=by
 have hlt:=X w _ c0
 simp only at hlt
 have ha:(bits .and .u8 (b0:Int) 16 != 0)=false:=by rw [Qrd b0 h0]; exact decide_eq_false (by omega)
 have m0:(0:Int) < (m:Int):=by omega
 have m1:(1:Int) < (m:Int):=by omega
 have m2:(2:Int) < (m:Int):=by omega
 have d3:decide ((m:Int) < 3)=false:=decide_eq_false (by omega)
 have m3:(m:Int)≤(c:Int):=by omega
 have m4:(3:Int)≤(c:Int):=by omega
 have hc2:¬ c=2:=by omega
 unfold Qcb
 have hor:bits .or Y 0 (s:Int)=(s:Int):=by
  have:=(bits_nat Y 32 (by decide) (fun n h0 h1=>by rw [IntKind.wrap_i64]; simp only [Int.reducePow] at h1; omega) 0 s (by decide) (by simp only [Nat.reducePow]; omega)).2
  simpa using this
 by_cases hc3:c=3
 ·subst hc3
  have hs0:s=0:=by omega
  subst hs0
  have hm3:m=3:=by omega
  subst hm3
  go_enter Tryz.func66,Tryz.ntmps66
  go_wp2
  go_loop [5,23] (fun z i=>∃ k:Nat,k≤1∧i=Q Y k∧z=Q Y (if k=0 then 0 else 0)) (fun _ i=>1 - (intOf i).toNat)
  case atStart=>exact ⟨0,by omega,rfl,rfl⟩
  case round =>
   obtain ⟨k,hk,rfl,rfl⟩:=hrel
   rcases (by omega:k=0∨k=1) with rfl | rfl
   ·rw [if_pos rfl]
    go_wp2
    exact ⟨⟨1,by omega,by go_num,rfl⟩,by simp [intOf]⟩
   ·rw [if_neg (by omega)]
    go_wp2_with fail
    go_region
    go_wp2
    all_goals exact bodyPost_ret (v:=.tuple #[.agg #[Q Y (b0:Int),Q Y (b1:Int),V (I ⟨b,o,Z⟩) 0 0,V (I ⟨b,o,Z⟩) 3 3],V (I ⟨b,o,Z⟩) 0 0]) (by simp [results,Tryz.results66,go_sem]) rfl ⟨_,_,_,_,rfl,fun h=>absurd h (by omega),J _,fun h=>absurd h (by omega),J _,by repeat (first | exact (D _ _).alloc (J _) _ | refine Below.setCell ?_ (J _) _ | refine Below.drew ?_)⟩
 ·have d3c:decide (c=3)=false:=decide_eq_false hc3
  have HZ:Hid (∀ en,3+s=en→en - 3=s):=fun en h=>by omega
  generalize hen:3+s=en at *
  have hei:(3:Int)+(s:Int)=(en:Int):=by omega
  have wen:IntKind.i64.wrap (en:Int)=(en:Int):=by rw [IntKind.wrap_i64]; omega
  have hz:=HZ.out en rfl
  have n3:(3:Int)≤(en:Int):=by omega
  have n4:(0:Int)≤(en:Int):=by omega
  by_cases hce:en=c
  ·have hmm:m=en:=by omega
   subst hmm
   subst hce
   have dd:decide ((m:Int) < (m:Int))=false:=decide_eq_false (by omega)
   clear hen HZ
   go_enter Tryz.func66,Tryz.ntmps66
   go_wp2
   go_loop [5,23] (fun z i=>∃ k:Nat,k≤1∧i=Q Y k∧z=Q Y (if k=0 then 0 else (s:Int))) (fun _ i=>1 - (intOf i).toNat)
   case atStart=>exact ⟨0,by omega,rfl,rfl⟩
   case round =>
    obtain ⟨k,hk,rfl,rfl⟩:=hrel
    rcases (by omega:k=0∨k=1) with rfl | rfl
    ·rw [if_pos rfl]
     go_wp2
     exact ⟨⟨1,by omega,by go_num,rfl⟩,by simp [intOf]⟩
    ·rw [if_neg (by omega)]
     go_wp2_with fail
     go_region
     go_wp2
     all_goals exact bodyPost_ret (v:=.tuple #[.agg #[Q Y (b0:Int),Q Y (b1:Int),V (I ⟨b,o+3,Z⟩) s s,V (I ⟨b,o,Z⟩) m m],V (I ⟨b,o,Z⟩) 0 0]) (by simp [results,Tryz.results66,go_sem]) rfl ⟨_,_,_,0,by rw [Nat.sub_self],fun _=>rfl,J _,fun h=>absurd h (by omega),by omega,by repeat (first | exact (D _ _).alloc (J _) _ | refine Below.setCell ?_ (J _) _ | refine Below.drew ?_)⟩
  ·have dce:¬ c=en:=fun h=>hce h.symm
   have dd:decide ((m:Int) < (en:Int))=false:=decide_eq_false (by omega)
   have n1:(en:Int)≤(m:Int):=by omega
   have n2:(en:Int)≤(c:Int):=by omega
   have HK:Hid (s≤c - 3∧m - en≤c - en):=⟨by omega,by omega⟩
   clear hen HZ
   go_enter Tryz.func66,Tryz.ntmps66
   go_wp2
   go_loop [5,23] (fun z i=>∃ k:Nat,k≤1∧i=Q Y k∧z=Q Y (if k=0 then 0 else (s:Int))) (fun _ i=>1 - (intOf i).toNat)
   case atStart=>exact ⟨0,by omega,rfl,rfl⟩
   case round =>
    obtain ⟨k,hk,rfl,rfl⟩:=hrel
    rcases (by omega:k=0∨k=1) with rfl | rfl
    ·rw [if_pos rfl]
     go_wp2
     exact ⟨⟨1,by omega,by go_num,rfl⟩,by simp [intOf]⟩
    ·rw [if_neg (by omega)]
     go_wp2_with fail
     go_region
     go_wp2
     all_goals exact bodyPost_ret (v:=.tuple #[.agg #[Q Y (b0:Int),Q Y (b1:Int),V (I ⟨b,o+3,Z⟩) s (c - 3),V (I ⟨b,o,Z⟩) en c],V (I ⟨b,o+en,Z⟩) (m - en) (c - en)]) (by simp [results,Tryz.results66,go_sem]) rfl ⟨_,_,_,_,rfl,fun _=>rfl,HK.out.1,fun _=>rfl,HK.out.2,by repeat (first | exact (D _ _).alloc (J _) _ | refine Below.setCell ?_ (J _) _ | refine Below.drew ?_)⟩
theorem Qx1 (b o m c:Nat)(b0 b1 b2 b3 s:Nat)(w:World)(hmc:m≤c)(hm2:m≤20000)(h0:b0 < 256)(h1:b1 < 256)(h2:b2 < 256)(h3:b3 < 256)(hs:256 * b2+b3=s)(hx:b0 / 16 % 2=1)(hfit:4+s≤m)
  (c0:w.cell? ⟨b,o,Z⟩=I (Q .u8 (b0:Int))) (c1:w.cell? ⟨b,o+1,Z⟩=I (Q .u8 (b1:Int))) (c2:w.cell? ⟨b,o+2,Z⟩=I (Q .u8 (b2:Int))) (c3:w.cell? ⟨b,o+3,Z⟩=I (Q .u8 (b3:Int))) :
  Calls U 66 #[V (I ⟨b,o,Z⟩) m c] w fun e w'=>∃ a1 k1 a3 k3,e=.returned (.tuple #[Qcb (b0:Int) (b1:Int) a1 s k1 (I ⟨b,o,Z⟩) (4+s) c,V a3 (m - (4+s)) k3])∧(0 < s→a1=I ⟨b,o+4,Z⟩)∧s≤k1∧(4+s < m→a3=I ⟨b,o+(4+s),Z⟩)∧m - (4+s)≤k3∧Below w.heap.size w w':=by
 have hlt:=X w _ c0
 simp only at hlt
 have ha:(bits .and .u8 (b0:Int) 16 != 0)=true:=by rw [Qrd b0 h0]; exact decide_eq_true hx
 have m0:(0:Int) < (m:Int):=by omega
 have m1:(1:Int) < (m:Int):=by omega
 have m2:(2:Int) < (m:Int):=by omega
 have d3:decide ((m:Int) < 4)=false:=decide_eq_false (by omega)
 have m3:(m:Int)≤(c:Int):=by omega
 have m4:(4:Int)≤(c:Int):=by omega
 have hc2:¬ c=2:=by omega
 unfold Qcb
 have hor:bits .or Y 0 (b2:Int)=(b2:Int):=by
  have:=(bits_nat Y 32 (by decide) (fun n h0 h1=>by rw [IntKind.wrap_i64]; simp only [Int.reducePow] at h1; omega) 0 b2 (by decide) (by simp only [Nat.reducePow]; omega)).2
  simpa using this
 have hor2:bits .or Y ((b2:Int) * 256) (b3:Int)=(s:Int):=by
  have:=(bits_nat Y 32 (by decide) (fun n h0 h1=>by rw [IntKind.wrap_i64]; simp only [Int.reducePow] at h1; omega) (b2 * 256) b3 (by simp only [Nat.reducePow]; omega) (by simp only [Nat.reducePow]; omega)).2
  have h9:=Nat.two_pow_add_eq_or_of_lt (i:=8) (b:=b3) (by simpa using h3) b2
  simp only [Nat.reducePow] at h9
  rw [Nat.mul_comm b2 256,← h9] at this
  have e1:(b2:Int) * 256=((256 * b2:Nat):Int):=by omega
  rw [e1,this,hs]
 have hsb:s < 65536:=by omega
 clear hs
 by_cases hc3:c=4
 ·subst hc3
  have hs0:s=0:=by omega
  subst hs0
  have hm3:m=4:=by omega
  subst hm3
  go_enter Tryz.func66,Tryz.ntmps66
  go_wp2
  go_loop [5,23] (fun z i=>∃ k:Nat,k≤2∧i=Q Y k∧z=Q Y (if k=0 then 0 else if k=1 then (b2:Int) else 0)) (fun _ i=>2 - (intOf i).toNat)
  case atStart=>exact ⟨0,by omega,rfl,rfl⟩
  case round =>
   obtain ⟨k,hk,rfl,rfl⟩:=hrel
   rcases (by omega:k=0∨k=1∨k=2) with rfl | rfl | rfl
   ·rw [if_pos rfl]
    go_wp2
    exact ⟨⟨1,by omega,by go_num,rfl⟩,by simp [intOf]⟩
   ·rw [if_neg (by omega),if_pos rfl]
    go_wp2
    exact ⟨⟨2,by omega,by go_num,rfl⟩,by simp [intOf]⟩
   ·rw [if_neg (by omega),if_neg (by omega)]
    go_wp2_with fail
    go_region
    go_wp2
    all_goals exact bodyPost_ret (v:=.tuple #[.agg #[Q Y (b0:Int),Q Y (b1:Int),V (I ⟨b,o,Z⟩) 0 0,V (I ⟨b,o,Z⟩) 4 4],V (I ⟨b,o,Z⟩) 0 0]) (by simp [results,Tryz.results66,go_sem]) rfl ⟨_,_,_,_,rfl,fun h=>absurd h (by omega),J _,fun h=>absurd h (by omega),J _,by repeat (first | exact (D _ _).alloc (J _) _ | refine Below.setCell ?_ (J _) _ | refine Below.drew ?_)⟩
 ·have d3c:decide (c=4)=false:=decide_eq_false hc3
  have HZ:Hid (∀ en,4+s=en→en - 4=s):=fun en h=>by omega
  generalize hen:4+s=en at *
  have hei:(4:Int)+(s:Int)=(en:Int):=by omega
  have wen:IntKind.i64.wrap (en:Int)=(en:Int):=by rw [IntKind.wrap_i64]; omega
  have hz:=HZ.out en rfl
  have n3:(4:Int)≤(en:Int):=by omega
  have n4:(0:Int)≤(en:Int):=by omega
  by_cases hce:en=c
  ·have hmm:m=en:=by omega
   subst hmm
   subst hce
   have dd:decide ((m:Int) < (m:Int))=false:=decide_eq_false (by omega)
   clear hen HZ
   go_enter Tryz.func66,Tryz.ntmps66
   go_wp2
   go_loop [5,23] (fun z i=>∃ k:Nat,k≤2∧i=Q Y k∧z=Q Y (if k=0 then 0 else if k=1 then (b2:Int) else (s:Int))) (fun _ i=>2 - (intOf i).toNat)
   case atStart=>exact ⟨0,by omega,rfl,rfl⟩
   case round =>
    obtain ⟨k,hk,rfl,rfl⟩:=hrel
    rcases (by omega:k=0∨k=1∨k=2) with rfl | rfl | rfl
    ·rw [if_pos rfl]
     go_wp2
     exact ⟨⟨1,by omega,by go_num,rfl⟩,by simp [intOf]⟩
    ·rw [if_neg (by omega),if_pos rfl]
     go_wp2
     exact ⟨⟨2,by omega,by go_num,rfl⟩,by simp [intOf]⟩
    ·rw [if_neg (by omega),if_neg (by omega)]
     go_wp2_with fail
     go_region
     go_wp2
     all_goals exact bodyPost_ret (v:=.tuple #[.agg #[Q Y (b0:Int),Q Y (b1:Int),V (I ⟨b,o+4,Z⟩) s s,V (I ⟨b,o,Z⟩) m m],V (I ⟨b,o,Z⟩) 0 0]) (by simp [results,Tryz.results66,go_sem]) rfl ⟨_,_,_,0,by rw [Nat.sub_self],fun _=>rfl,J _,fun h=>absurd h (by omega),by omega,by repeat (first | exact (D _ _).alloc (J _) _ | refine Below.setCell ?_ (J _) _ | refine Below.drew ?_)⟩
  ·have dce:¬ c=en:=fun h=>hce h.symm
   have dd:decide ((m:Int) < (en:Int))=false:=decide_eq_false (by omega)
   have n1:(en:Int)≤(m:Int):=by omega
   have n2:(en:Int)≤(c:Int):=by omega
   have HK:Hid (s≤c - 4∧m - en≤c - en):=⟨by omega,by omega⟩
   clear hen HZ
   go_enter Tryz.func66,Tryz.ntmps66
   go_wp2
   go_loop [5,23] (fun z i=>∃ k:Nat,k≤2∧i=Q Y k∧z=Q Y (if k=0 then 0 else if k=1 then (b2:Int) else (s:Int))) (fun _ i=>2 - (intOf i).toNat)
   case atStart=>exact ⟨0,by omega,rfl,rfl⟩
   case round =>
    obtain ⟨k,hk,rfl,rfl⟩:=hrel
    rcases (by omega:k=0∨k=1∨k=2) with rfl | rfl | rfl
    ·rw [if_pos rfl]
     go_wp2
     exact ⟨⟨1,by omega,by go_num,rfl⟩,by simp [intOf]⟩
    ·rw [if_neg (by omega),if_pos rfl]
     go_wp2
     exact ⟨⟨2,by omega,by go_num,rfl⟩,by simp [intOf]⟩
    ·rw [if_neg (by omega),if_neg (by omega)]
     go_wp2_with fail
     go_region
     go_wp2
     all_goals exact bodyPost_ret (v:=.tuple #[.agg #[Q Y (b0:Int),Q Y (b1:Int),V (I ⟨b,o+4,Z⟩) s (c - 4),V (I ⟨b,o,Z⟩) en c],V (I ⟨b,o+en,Z⟩) (m - en) (c - en)]) (by simp [results,Tryz.results66,go_sem]) rfl ⟨_,_,_,_,rfl,fun _=>rfl,HK.out.1,fun _=>rfl,HK.out.2,by repeat (first | exact (D _ _).alloc (J _) _ | refine Below.setCell ?_ (J _) _ | refine Below.drew ?_)⟩
theorem Qyp (w:World)(a:Option Addr):BRd w a []:=⟨Rw.nil _ _ _,fun x h=>by simp at h⟩
theorem Qgk (s:Int)(w0 w:World)(hb:Below w0.heap.size w0 w):Calls U 67 #[Q Y s,V Z 0 0] w fun e w'=>Qbn w0 w' s [] e :=
 (Qj6 s Z 0 [] w (by simp) (Qyp w Z)).mono fun e w' h=>h.from hb
theorem Qoq (b o m c b0:Nat)(w:World)(h0:b0 < 256)(hm:0 < m)(hs:m < Qbj b0)(c0:w.cell? ⟨b,o,Z⟩=I (Q .u8 (b0:Int))) :
  Calls U 66 #[V (I ⟨b,o,Z⟩) m c] w fun e w'=>Qbn w w' 1 [] e:=by
 have hlt:=X w _ c0
 simp only at hlt
 have K:Hid (∀ w1,Below w.heap.size w w1→Calls U 67 #[Q Y 1,V Z 0 0] w1 fun e w'=>Qbn w w' 1 [] e):=fun w1 hb=>Qgk 1 w w1 hb
 have m0:(0:Int) < (m:Int):=by omega
 unfold Qbj at hs
 unfold Qbn at K ⊢
 unfold Qdp at K ⊢
 by_cases hx:b0 / 16 % 2=1
 ·rw [if_pos hx] at hs
  have ha:(bits .and .u8 (b0:Int) 16 != 0)=true:=by rw [Qrd b0 h0]; exact decide_eq_true hx
  have d3:(m:Int) < 4:=by omega
  go_enter Tryz.func66,Tryz.ntmps66
  go_wp2_with fail
  refine (K.out _ ((D _ _).alloc (J _) _)).mono ?_
  rintro e w1 ⟨a9,c9,rfl,ho,hb⟩
  go_wp2
  exact ⟨rfl,a9,c9,rfl,ho,hb⟩
 ·rw [if_neg hx] at hs
  have ha:(bits .and .u8 (b0:Int) 16 != 0)=false:=by rw [Qrd b0 h0]; exact decide_eq_false hx
  have d3:(m:Int) < 3:=by omega
  go_enter Tryz.func66,Tryz.ntmps66
  go_wp2_with fail
  refine (K.out _ ((D _ _).alloc (J _) _)).mono ?_
  rintro e w1 ⟨a9,c9,rfl,ho,hb⟩
  go_wp2
  exact ⟨rfl,a9,c9,rfl,ho,hb⟩
theorem Qtt (b o m c b0 s:Nat)(w:World)(hmc:m≤c)(hm2:m≤20000)(h0:b0 < 256)(hs:s < 256)(hx:b0 / 16 % 2=0)(h3m:3≤m)(hfit:m < 3+s)
  (c0:w.cell? ⟨b,o,Z⟩=I (Q .u8 (b0:Int))) (c2:w.cell? ⟨b,o+2,Z⟩=I (Q .u8 (s:Int))) :
  Calls U 66 #[V (I ⟨b,o,Z⟩) m c] w fun e w'=>Qbn w w' 1 [] e:=by
 have hlt:=X w _ c0
 simp only at hlt
 have K:Hid (∀ w1,Below w.heap.size w w1→Calls U 67 #[Q Y 1,V Z 0 0] w1 fun e w'=>Qbn w w' 1 [] e):=fun w1 hb=>Qgk 1 w w1 hb
 have ha:(bits .and .u8 (b0:Int) 16 != 0)=false:=by rw [Qrd b0 h0]; exact decide_eq_false (by omega)
 have m0:(0:Int) < (m:Int):=by omega
 have d3:decide ((m:Int) < 3)=false:=decide_eq_false (by omega)
 have m3:(m:Int)≤(c:Int):=by omega
 have m4:(3:Int)≤(c:Int):=by omega
 have hc2:¬ c=2:=by omega
 have hor:bits .or Y 0 (s:Int)=(s:Int):=by
  have:=(bits_nat Y 32 (by decide) (fun n h0 h1=>by rw [IntKind.wrap_i64]; simp only [Int.reducePow] at h1; omega) 0 s (by decide) (by simp only [Nat.reducePow]; omega)).2
  simpa using this
 generalize hen:3+s=en at *
 have hei:(3:Int)+(s:Int)=(en:Int):=by omega
 have wen:IntKind.i64.wrap (en:Int)=(en:Int):=by rw [IntKind.wrap_i64]; omega
 have dd:(m:Int) < (en:Int):=by omega
 clear hen
 unfold Qbn at K ⊢
 unfold Qdp at K ⊢
 go_enter Tryz.func66,Tryz.ntmps66
 go_wp2
 go_loop [5,23] (fun z i=>∃ k:Nat,k≤1∧i=Q Y k∧z=Q Y (if k=0 then 0 else (s:Int))) (fun _ i=>1 - (intOf i).toNat)
 case atStart=>exact ⟨0,by omega,rfl,rfl⟩
 case round =>
  obtain ⟨k,hk,rfl,rfl⟩:=hrel
  rcases (by omega:k=0∨k=1) with rfl | rfl
  ·rw [if_pos rfl]
   go_wp2
   exact ⟨⟨1,by omega,by go_num,rfl⟩,by simp [intOf]⟩
  ·rw [if_neg (by omega)]
   go_wp2_with fail
   refine (K.out _ ((D _ _).alloc (J _) _)).mono ?_
   rintro e w1 ⟨a9,c9,rfl,ho,hb⟩
   go_wp2
   exact ⟨rfl,a9,c9,rfl,ho,hb⟩
theorem Qtq (b o m c b0 b2 b3 s:Nat)(w:World)(hmc:m≤c)(hm2:m≤20000)(h0:b0 < 256)(h2:b2 < 256)(h3:b3 < 256)(hs:256 * b2+b3=s)(hx:b0 / 16 % 2=1)(h3m:4≤m)(hfit:m < 4+s)
  (c0:w.cell? ⟨b,o,Z⟩=I (Q .u8 (b0:Int))) (c2:w.cell? ⟨b,o+2,Z⟩=I (Q .u8 (b2:Int))) (c3:w.cell? ⟨b,o+3,Z⟩=I (Q .u8 (b3:Int))) :
  Calls U 66 #[V (I ⟨b,o,Z⟩) m c] w fun e w'=>Qbn w w' 1 [] e:=by
 have hlt:=X w _ c0
 simp only at hlt
 have K:Hid (∀ w1,Below w.heap.size w w1→Calls U 67 #[Q Y 1,V Z 0 0] w1 fun e w'=>Qbn w w' 1 [] e):=fun w1 hb=>Qgk 1 w w1 hb
 have ha:(bits .and .u8 (b0:Int) 16 != 0)=true:=by rw [Qrd b0 h0]; exact decide_eq_true hx
 have m0:(0:Int) < (m:Int):=by omega
 have d3:decide ((m:Int) < 4)=false:=decide_eq_false (by omega)
 have m3:(m:Int)≤(c:Int):=by omega
 have m4:(4:Int)≤(c:Int):=by omega
 have hc2:¬ c=2:=by omega
 have hor:bits .or Y 0 (b2:Int)=(b2:Int):=by
  have:=(bits_nat Y 32 (by decide) (fun n h0 h1=>by rw [IntKind.wrap_i64]; simp only [Int.reducePow] at h1; omega) 0 b2 (by decide) (by simp only [Nat.reducePow]; omega)).2
  simpa using this
 have hor2:bits .or Y ((b2:Int) * 256) (b3:Int)=(s:Int):=by
  have:=(bits_nat Y 32 (by decide) (fun n h0 h1=>by rw [IntKind.wrap_i64]; simp only [Int.reducePow] at h1; omega) (b2 * 256) b3 (by simp only [Nat.reducePow]; omega) (by simp only [Nat.reducePow]; omega)).2
  have h9:=Nat.two_pow_add_eq_or_of_lt (i:=8) (b:=b3) (by simpa using h3) b2
  simp only [Nat.reducePow] at h9
  rw [Nat.mul_comm b2 256,← h9] at this
  have e1:(b2:Int) * 256=((256 * b2:Nat):Int):=by omega
  rw [e1,this,hs]
 have hsb:s < 65536:=by omega
 clear hs
 generalize hen:4+s=en at *
 have hei:(4:Int)+(s:Int)=(en:Int):=by omega
 have wen:IntKind.i64.wrap (en:Int)=(en:Int):=by rw [IntKind.wrap_i64]; omega
 have dd:(m:Int) < (en:Int):=by omega
 clear hen
 unfold Qbn at K ⊢
 unfold Qdp at K ⊢
 go_enter Tryz.func66,Tryz.ntmps66
 go_wp2
 go_loop [5,23] (fun z i=>∃ k:Nat,k≤2∧i=Q Y k∧z=Q Y (if k=0 then 0 else if k=1 then (b2:Int) else (s:Int))) (fun _ i=>2 - (intOf i).toNat)
 case atStart=>exact ⟨0,by omega,rfl,rfl⟩
 case round =>
  obtain ⟨k,hk,rfl,rfl⟩:=hrel
  rcases (by omega:k=0∨k=1∨k=2) with rfl | rfl | rfl
  ·rw [if_pos rfl]
   go_wp2
   exact ⟨⟨1,by omega,by go_num,rfl⟩,by simp [intOf]⟩
  ·rw [if_neg (by omega),if_pos rfl]
   go_wp2
   exact ⟨⟨2,by omega,by go_num,rfl⟩,by simp [intOf]⟩
  ·rw [if_neg (by omega),if_neg (by omega)]
   go_wp2_with fail
   refine (K.out _ ((D _ _).alloc (J _) _)).mono ?_
   rintro e w1 ⟨a9,c9,rfl,ho,hb⟩
   go_wp2
   exact ⟨rfl,a9,c9,rfl,ho,hb⟩
theorem BRd.cells {w:World}{a:Option Addr}{bs:List Nat} (h:BRd w a bs) (hp:0 < bs.length):∃ b o,a=I ⟨b,o,Z⟩∧(∀ j,j < bs.length→w.cell? ⟨b,o+j,Z⟩=I (Q .u8 (bs.getD j 0:Int)))∧∀ j,bs.getD j 0 < 256:=by
 obtain ⟨b,o,e,hc⟩:=h.1.2 hp
 refine ⟨b,o,e,hc,fun j=>?_⟩
 by_cases hj:j < bs.length
 ·rw [E,List.getElem?_eq_getElem hj]
  exact h.2 _ (List.getElem_mem hj)
 ·rw [E,List.getElem?_eq_none (by omega)]
  decide
theorem BRd.piece {w:World}{b o:Nat}{bs:List Nat} (h:BRd w (I ⟨b,o,Z⟩) bs) (i n:Nat) (hi:i+n≤bs.length) (a:Option Addr) (ha:0 < n→a=I ⟨b,o+i,Z⟩):BRd w a ((bs.drop i).take n):=by
 have hl:((bs.drop i).take n).length=n:=by rw [List.length_take,List.length_drop]; omega
 refine ⟨⟨by rw [hl]; have:=h.1.1; omega,fun hp=>?_⟩,fun x hx=>h.2 x (List.mem_of_mem_drop (List.mem_of_mem_take hx))⟩
 rw [hl] at hp
 refine ⟨b,o+i,ha hp,fun j hj=>?_⟩
 rw [hl] at hj
 obtain ⟨b',o',e,hc⟩:=h.1.2 (by omega)
 simp only [Option.some.injEq,Addr.mk.injEq,and_true] at e
 obtain ⟨rfl,rfl⟩:=e
 rw [Nat.add_assoc,hc (i+j) (by omega)]
 congr 3
 show bs.getD (i+j) 0=((bs.drop i).take n).getD j 0
 rw [E,E,List.getElem?_take,if_pos hj,List.getElem?_drop]
theorem BRd.behind {w:World}{b o:Nat}{bs:List Nat} (h:BRd w (I ⟨b,o,Z⟩) bs) (i:Nat) (hi:i≤bs.length) (a:Option Addr) (ha:i < bs.length→a=I ⟨b,o+i,Z⟩):BRd w a (bs.drop i):=by
 have h9:=h.piece i (bs.length - i) (by omega) a (fun hp=>ha (by omega))
 rwa [List.take_of_length_le (by rw [List.length_drop]; omega)] at h9
theorem BRd.ahead {w:World}{b o:Nat}{bs:List Nat} (h:BRd w (I ⟨b,o,Z⟩) bs) (n:Nat) (hn:n≤bs.length):BRd w (I ⟨b,o,Z⟩) (bs.take n):=by
 have h9:=h.piece 0 n (by omega) (I ⟨b,o,Z⟩) (fun _=>by rw [Nat.add_zero])
 rwa [List.drop_zero] at h9
def Qxr (w w':World)(bs:List Nat)(e:Ending):Prop :=
 ∃ a1 k1 a2 k2 a3 k3,e=.returned (.tuple #[Qcb (bs.getD 0 0:Int) (bs.getD 1 0:Int) a1 (Qbl bs) k1 a2 (Qbj (bs.getD 0 0)+Qbl bs) k2,V a3 (bs.length - (Qbj (bs.getD 0 0)+Qbl bs)) k3])∧BRd w a1 ((bs.drop (Qbj (bs.getD 0 0))).take (Qbl bs))∧Qbl bs≤k1∧BRd w a2 (bs.take (Qbj (bs.getD 0 0)+Qbl bs))∧BRd w a3 (bs.drop (Qbj (bs.getD 0 0)+Qbl bs))∧bs.length - (Qbj (bs.getD 0 0)+Qbl bs)≤k3∧Below w.heap.size w w'
theorem Qz9 (a:Option Addr)(c:Nat)(bs:List Nat)(w:World)(hp:0 < bs.length)(hl:bs.length≤20000)(hc:bs.length≤c)(h:BRd w a bs)(hfit:Qbj (bs.getD 0 0)+Qbl bs≤bs.length) :
  Calls U 66 #[V a bs.length c] w fun e w'=>Qxr w w' bs e:=by
 obtain ⟨b,o,rfl,hcell,hlt⟩:=h.cells hp
 have hh:=Qhj (bs.getD 0 0)
 by_cases hx:bs.getD 0 0 / 16 % 2=1
 ·have e1:Qbj (bs.getD 0 0)=4:=by unfold Qbj; rw [if_pos hx]
  have e2:Qbl bs=256 * bs.getD 2 0+bs.getD 3 0:=by unfold Qbl; rw [if_pos hx]
  rw [e1] at hfit
  refine (Qx1 b o bs.length c _ _ _ _ (Qbl bs) w hc hl (hlt 0) (hlt 1) (hlt 2) (hlt 3) e2.symm hx hfit (by have:=hcell 0 hp; simpa using this) (hcell 1 (by omega)) (hcell 2 (by omega)) (hcell 3 (by omega))).mono ?_
  rintro e w' ⟨a1,k1,a3,k3,he,q1,q2,q3,q4,hb⟩
  refine ⟨a1,k1,_,c,a3,k3,by rw [e1]; exact he,?_,q2,?_,?_,by rw [e1]; exact q4,hb⟩
  ·rw [e1]; exact h.piece 4 _ hfit a1 q1
  ·rw [e1]; exact h.ahead _ hfit
  ·rw [e1]; exact h.behind _ hfit a3 q3
 ·have e1:Qbj (bs.getD 0 0)=3:=by unfold Qbj; rw [if_neg hx]
  have e2:Qbl bs=bs.getD 2 0:=by unfold Qbl; rw [if_neg hx]
  rw [e1] at hfit
  refine (Qx8 b o bs.length c _ _ (Qbl bs) w hc hl (hlt 0) (hlt 1) (by rw [e2]; exact hlt 2) (by omega) hfit (by have:=hcell 0 hp; simpa using this) (hcell 1 (by omega)) (by rw [e2]; exact hcell 2 (by omega))).mono ?_
  rintro e w' ⟨a1,k1,a3,k3,he,q1,q2,q3,q4,hb⟩
  refine ⟨a1,k1,_,c,a3,k3,by rw [e1]; exact he,?_,q2,?_,?_,by rw [e1]; exact q4,hb⟩
  ·rw [e1]; exact h.piece 3 _ hfit a1 q1
  ·rw [e1]; exact h.ahead _ hfit
  ·rw [e1]; exact h.behind _ hfit a3 q3
theorem Quv (a:Option Addr)(c:Nat)(bs:List Nat)(w:World)(hp:0 < bs.length)(hl:bs.length≤20000)(hc:bs.length≤c)(h:BRd w a bs)(hfit:¬ (Qbj (bs.getD 0 0)≤bs.length∧Qbj (bs.getD 0 0)+Qbl bs≤bs.length)) :
  Calls U 66 #[V a bs.length c] w fun e w'=>Qbn w w' 1 [] e:=by
 obtain ⟨b,o,rfl,hcell,hlt⟩:=h.cells hp
 by_cases hs:bs.length < Qbj (bs.getD 0 0)
 ·exact Qoq b o bs.length c _ w (hlt 0) hp hs (by have:=hcell 0 hp; simpa using this)
 ·by_cases hx:bs.getD 0 0 / 16 % 2=1
  ·have e1:Qbj (bs.getD 0 0)=4:=by unfold Qbj; rw [if_pos hx]
   have e2:Qbl bs=256 * bs.getD 2 0+bs.getD 3 0:=by unfold Qbl; rw [if_pos hx]
   rw [e1] at hfit hs
   exact Qtq b o bs.length c _ _ _ (Qbl bs) w hc hl (hlt 0) (hlt 2) (hlt 3) e2.symm hx (by omega) (by omega) (by have:=hcell 0 hp; simpa using this) (hcell 2 (by omega)) (hcell 3 (by omega))
  ·have e1:Qbj (bs.getD 0 0)=3:=by unfold Qbj; rw [if_neg hx]
   have e2:Qbl bs=bs.getD 2 0:=by unfold Qbl; rw [if_neg hx]
   rw [e1] at hfit hs
   exact Qtt b o bs.length c _ (Qbl bs) w hc hl (hlt 0) (by rw [e2]; exact hlt 2) (by omega) (by omega) (by omega) (by have:=hcell 0 hp; simpa using this) (by rw [e2]; exact hcell 2 (by omega))
