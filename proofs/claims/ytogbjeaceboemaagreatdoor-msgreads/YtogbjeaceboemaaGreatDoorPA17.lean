import Derived.Test.YtogbjeaceboemaaGreatDoorPA4
import Derived.Test.YtogbjeaceboemaaGreatDoorPA3
import Derived.Test.YtogbjeaceboemaaGreatDoorPA1
import Derived.Shelf.SlSortCmp.NoneTotal
import Derived.Laws.BitsAllLaws
import Derived.Deep.RegionWith
namespace Go.Proofs.YtogbjeaceboemaaGreatDoor
open Go.RowKit
set_option maxRecDepth 100000
theorem Tryz.infoRaw:(Tryz.prog.info? 104).map (fun i=>(i.zero,i.size,i.bytes))=some (some (.agg #[.int .i64 0,.int .i64 0,.slice none 0 0]),3,40):=by kernel_rfl
theorem Tryz.infoU32:(Tryz.prog.info? 24).map (fun i=>(i.zero,i.size,i.bytes))=some (some (.int .u32 0),1,4):=by kernel_rfl
theorem elemRaw:Elem 32 104 3 40:=by
 obtain ⟨i,h1,h2,h3,h4⟩:=info_parts Tryz.infoRaw
 exact ⟨Tryz.underlying32,⟨i,_,h1,h2,h3,h4,rfl⟩,by omega,by omega⟩
theorem elemU32:Elem 31 24 1 4:=by
 obtain ⟨i,h1,h2,h3,h4⟩:=info_parts Tryz.infoU32
 exact ⟨Tryz.underlying31,⟨i,_,h1,h2,h3,h4,rfl⟩,by omega,by omega⟩
def OwnRaws (w:World)(B:Nat)(v:Value)(rs:List (Int×Int×List Nat)):Prop :=
 ∃ cs,w.ownsRow B 104 3 v rs.length cs∧∀ i r,rs[i]?=some r→cs[i * 3]?=some (.int .i64 r.1)∧cs[i * 3+1]?=some (.int .i64 r.2.1)∧∃ u,cs[i * 3+2]?=some u∧w.ownsRow B 5 1 u r.2.2.length (bcells r.2.2)
theorem OwnRaws.later {w w':World}{B:Nat}{v:Value}{rs:List (Int×Int×List Nat)} (h:OwnRaws w B v rs) (hb:Below w.heap.size w w'):OwnRaws w' B v rs:=by
 obtain ⟨cs,ho,hc⟩:=h
 refine ⟨cs,own_later ho hb,fun i r hi=>?_⟩
 obtain ⟨h1,h2,u,h3,h4⟩:=hc i r hi
 exact ⟨h1,h2,u,h3,own_later h4 hb⟩
theorem OwnRaws.nil (w:World)(B:Nat):OwnRaws w B (.slice none 0 0) []:=⟨[],own_nil _ _ _ _,fun i s h=>by simp at h⟩
theorem OwnRaws.base {w:World}{B B':Nat}{v:Value}{rs:List (Int×Int×List Nat)} (h:OwnRaws w B v rs) (hB:B'≤B):OwnRaws w B' v rs:=by
 obtain ⟨cs,ho,hc⟩:=h
 refine ⟨cs,own_base ho hB,fun i r hi=>?_⟩
 obtain ⟨h1,h2,u,h3,h4⟩:=hc i r hi
 exact ⟨h1,h2,u,h3,own_base h4 hB⟩
theorem OwnRaws.rd {w:World}{B:Nat}{v:Value}{rs:List (Int×Int×List Nat)} (h:OwnRaws w B v rs) (hs:∀ r∈rs,r.2.2.length≤500000∧∀ x∈r.2.2,x < 256):∃ a c,v=.slice a rs.length c∧RawRd w a rs:=by
 obtain ⟨cs,ho,hc⟩:=h
 have hh:=ho
 rcases ho.2 with ⟨rfl,h0⟩ | ⟨g,cap,cur,rfl,_⟩
 ·exact ⟨none,0,by rw [h0],fun hp=>absurd hp (by omega)⟩
 ·refine ⟨_,_,rfl,fun _=>⟨g,0,rfl,fun i r hi=>?_⟩⟩
  have hil:=(List.getElem?_eq_some_iff.1 hi).1
  obtain ⟨h1,h2,u,h3,h4⟩:=hc i r hi
  obtain ⟨q1,q2⟩:=hs r (List.mem_of_getElem? hi)
  obtain ⟨a',c',rfl,h5,h6⟩:=own_brd h4 q1 q2
  rw [Nat.zero_add,hh.cellAt (i * 3) (by omega),hh.cellAt (i * 3+1) (by omega),hh.cellAt (i * 3+2) (by omega)]
  exact ⟨h1,h2,a',c',h3,h5,h6⟩
def ucells (l:List Nat):List Value:=l.map fun (x:Nat)=>Value.int .u32 (x:Int)
theorem ucells_app (l r:List Nat):ucells (l++r)=ucells l++ucells r:=by simp [ucells]
theorem ucells_length (l:List Nat):(ucells l).length=l.length:=by simp [ucells]
theorem own_crd {w:World}{B:Nat}{v:Value}{cs:List Nat} (h:w.ownsRow B 24 1 v cs.length (ucells cs)):∃ a c,v=.slice a cs.length c∧CRd w a cs:=by
 have hh:=h
 rcases h.2 with ⟨rfl,h0⟩ | ⟨g,cap,cur,rfl,_⟩
 ·exact ⟨none,0,by rw [h0],fun hp=>absurd hp (by omega)⟩
 ·refine ⟨_,_,rfl,fun _=>⟨g,0,rfl,fun j z hj=>?_⟩⟩
  have hjl:=(List.getElem?_eq_some_iff.1 hj).1
  rw [Nat.zero_add,hh.cellAt j (by omega)]
  simp [ucells,hj]
abbrev RE:Type:=Int×Int×Option Addr×Nat×Nat
def encE (x:RE):List Value:=[.int .i64 x.1,.int .i64 x.2.1,.slice x.2.2.1 x.2.2.2.1 x.2.2.2.2]
def cfE (x y:RE):Int:=if x.2.1 < y.2.1 then -1 else if y.2.1 < x.2.1 then 1 else 0
theorem ltE (x y:RE):ltOf cfE x y=decide (x.2.1 < y.2.1):=by
 unfold ltOf cfE
 by_cases h1:x.2.1 < y.2.1
 ·simp [h1]
 ·by_cases h2:y.2.1 < x.2.1 <;> simp [h1,h2]
theorem swoE:Sort.SWO (ltOf cfE) where
 irrefl x:=by rw [ltE]; simp
 trans x y z h1 h2:=by rw [ltE] at *; simp at *; omega
 ntrans x y z h1 h2:=by rw [ltE] at *; simp at *; omega
set_option maxHeartbeats 800000 in
theorem byType_any (x y:RE)(w:World):Calls Tryz.prog 73 #[.agg (encE x).toArray,.agg (encE y).toArray] w fun e w'=>e=.returned (.int .i64 (cfE x y))∧∃ q os',w'=Sort.grow (w.drewN q) os':=by
 have K:=hide (fun W=>cmpi_any x.2.1 y.2.1 W)
 have hr:cfE x y=(if x.2.1 < y.2.1 then -1 else if y.2.1 < x.2.1 then 1 else 0):=rfl
 rw [hr]
 generalize (if x.2.1 < y.2.1 then (-1:Int) else if y.2.1 < x.2.1 then 1 else 0)=r at *
 obtain ⟨xf,xt,xa,xn,xc⟩:=x
 obtain ⟨yf,yt,ya,yn,yc⟩:=y
 simp only [encE] at *
 go_enter Tryz.func73,Tryz.ntmps73
 go_wp2_with fail
 refine (K.out _).mono ?_
 rintro e w' ⟨rfl,rfl⟩
 go_wp2
 go_ret
 exact ⟨rfl,0,_,by rw [Sort.alloc_eq_grow,Sort.alloc_eq_grow,Sort.grow_grow]; rfl⟩
def RowsE (cs:List Value)(d:List RE):Prop:=∀ i x,d[i]?=some x→cs[i * 3]?=some (.int .i64 x.1)∧cs[i * 3+1]?=some (.int .i64 x.2.1)∧cs[i * 3+2]?=some (.slice x.2.2.1 x.2.2.2.1 x.2.2.2.2)
theorem isAggRaw:∀ w,(isAgg 104).run Tryz.prog w=.ok true w:=Tryz.isAgg104
theorem sizeOfRaw:∀ w,(Go.sizeOf 104).run Tryz.prog w=.ok 3 w:=Tryz.sizeOf104
theorem getE (d:Array RE)(i:Nat)(h:i < d.size):d.toList[i]?=some d[i]!:=by
 rw [Array.getElem?_toList,Array.getElem?_eq_getElem h,getElem!_pos d i h]
theorem flatE (d:Array RE)(i:Nat)(x:RE)(h:d.toList[i]?=some x):(Sort.flatK encE 3 d).toList[i * 3]?=some (.int .i64 x.1)∧(Sort.flatK encE 3 d).toList[i * 3+1]?=some (.int .i64 x.2.1)∧(Sort.flatK encE 3 d).toList[i * 3+2]?=some (.slice x.2.2.1 x.2.2.2.1 x.2.2.2.2):=by
 have hi:i < d.size:=by have:=(List.getElem?_eq_some_iff.1 h).1; simpa using this
 have hx:d[i]! = x:=by have:=getE d i hi; rw [h] at this; exact (Option.some.inj this).symm
 have key:∀ q,q < 3→(Sort.flatK encE 3 d).toList[i * 3+q]?=some ((encE x)[q]!):=by
  intro q hq
  have hlt:i * 3+q < d.size * 3:=by omega
  rw [Array.getElem?_toList,Array.getElem?_eq_getElem (by rw [Sort.size_flatK]; exact hlt)]
  have h9:=Sort.get_flatK encE 3 d (i * 3+q) hlt
  rw [getElem!_pos _ _ (by rw [Sort.size_flatK]; exact hlt),show (i * 3+q) / 3=i from by omega,show (i * 3+q) % 3=q from by omega,hx] at h9
  rw [h9]
 exact ⟨key 0 (by omega),key 1 (by omega),key 2 (by omega)⟩
theorem holdsE {w:World}{B g n c:Nat}{cs:List Value}{d:Array RE} (ho:w.ownsRow B 104 3 (.slice (some ⟨g,0,none⟩) n c) n cs) (hd:d.size=n) (hR:RowsE cs d.toList):Sort.HoldsK encE 3 w g 0 d:=by
 intro j hj
 rw [Sort.size_flatK] at hj
 have hi:j / 3 < d.size:=by omega
 obtain ⟨h0,h1,h2⟩:=hR (j / 3) _ (getE d (j / 3) hi)
 refine ⟨?_,by rw [Nat.zero_add]; exact ho.frozenAt j⟩
 rw [Nat.zero_add,ho.cellAt j (by omega)]
 show _=some (Sort.flatK encE 3 d)[j]!
 rw [Sort.get_flatK encE 3 d j hj]
 have e:j % 3=0∨j % 3=1∨j % 3=2:=by omega
 rcases e with e | e | e
 ·rw [e,show j=j / 3 * 3 from by omega,h0,show j / 3 * 3 / 3=j / 3 from by omega]; rfl
 ·rw [e,show j=j / 3 * 3+1 from by omega,h1,show (j / 3 * 3+1) / 3=j / 3 from by omega]; rfl
 ·rw [e,show j=j / 3 * 3+2 from by omega,h2,show (j / 3 * 3+2) / 3=j / 3 from by omega]; rfl
theorem take_put (F cur:Array Value)(h:F.size≤cur.size):(Sort.putCells id 0 F cur).toList.take F.size=F.toList:=by
 apply List.ext_getElem?
 intro k
 rw [List.getElem?_take]
 by_cases hk:k < F.size
 ·rw [if_pos hk,Array.getElem?_toList,Array.getElem?_toList]
  unfold Sort.putCells
  rw [Array.getElem?_mapIdx,Array.getElem?_eq_getElem (show k < cur.size by omega),Array.getElem?_eq_getElem hk]
  simp only [Option.map_some,Nat.zero_le,Nat.zero_add,true_and,hk,if_true,id,Nat.sub_zero]
  rw [getElem!_pos F k hk]
 ·rw [if_neg hk,Array.getElem?_toList,Array.getElem?_eq_none (by omega)]
theorem sort_row (d:List RE)(B g n c:Nat)(cs:List Value)(w:World)(ho:w.ownsRow B 104 3 (.slice (some ⟨g,0,none⟩) n c) n cs)(hd:d.length=n)(hR:RowsE cs d)(hn:n≤100000) :
  Calls Tryz.prog 72 #[.slice (some ⟨g,0,none⟩) n c,.func (.func 73) #[] #[]] w fun e w'=>e=.returned (.tuple #[])∧∃ d' cs',d'.Perm d∧(d'.Pairwise fun x y=>x.2.1≤y.2.1)∧w'.ownsRow B 104 3 (.slice (some ⟨g,0,none⟩) n c) n cs'∧RowsE cs' d'∧Keeps (fun b=>b=g) w w':=by
 have hsz:d.toArray.size=n:=by simpa using hd
 have eg:∀ args w,(callFunc 73 args).run Tryz.prog w=.ok (.enter 73 args) w:=enters_of Tryz.func73 (by kernel_rfl) rfl
 have hH:Sort.HoldsK encE 3 w g 0 d.toArray:=holdsE ho hsz (by simpa using hR)
 obtain ⟨cur,hg,hgb,hcap,hmax,hcs,htk⟩:∃ cur,w.heap[g]?=some (.cells cur 104 (0,0))∧B≤g∧n≤c∧c≤maxLen∧cur.size=c * 3∧cur.toList.take (n * 3)=cs:=by
  rcases ho.2 with ⟨e,_⟩ | ⟨g',cap,cur,e,h1,h2,h3,h4,h5,h6⟩
  ·cases e
  ·simp only [Value.slice.injEq,Option.some.injEq,Addr.mk.injEq,and_true,true_and] at e
   obtain ⟨rfl,rfl⟩:=e
   exact ⟨cur,h2,h1,h3,h4,h5,h6⟩
 have hgl:g < w.heap.size:=(Array.getElem?_eq_some_iff.1 hg).1
 have hcon:=AnyQ.slices_SortFunc sortR 3 isAggRaw sizeOfRaw encE (fun _=>rfl) (fun x v hv=>by simp [encE] at hv; rcases hv with rfl | rfl | rfl <;> rfl) cfE swoE 73 #[] g 0 c d.toArray w eg (fun m os dk _ x y=>byType_any x y _) hH hgl (by rw [hsz]; omega)
 rw [hsz] at hcon
 refine Calls.mono hcon ?_
 rintro e w' ⟨rfl,d',m,os,hp,hs,rfl⟩
 have hd':d'.size=n:=by rw [hp.1,hsz]
 have hF:(Sort.flatK encE 3 d').size=n * 3:=by rw [Sort.size_flatK,hd']
 have hheap:(sortWorldK encE 3 w g 0 m d' os).heap[g]?=some (.cells (Sort.putCells id 0 (Sort.flatK encE 3 d') cur) 104 (0,0)):=by
  unfold sortWorldK
  rw [Sort.heap_grow_old _ _ (by show g < (Sort.putRowK encE 3 (Sort.ahead w m) g 0 d').heap.size; rw [Sort.size_putRowK]; exact hgl)]
  show ((w.heap.modify g (Sort.onCells (Sort.putCells id 0 (Sort.flatK encE 3 d')))))[g]?=_
  rw [Array.getElem?_modify,if_pos rfl,hg]
  rfl
 refine ⟨rfl,d'.toList,(Sort.flatK encE 3 d').toList,?_,?_,?_,fun i x hx=>flatE d' i x hx,?_⟩
 ·have h9:=hp.2.2
  rw [← hsz] at h9
  have e1:d'.extract 0 d.toArray.size=d':=by rw [hsz,← hd']; simp
  have e2:d.toArray.extract 0 d.toArray.size=d.toArray:=by simp
  rw [e1,e2] at h9
  simpa using h9
 ·rw [List.pairwise_iff_getElem]
  intro i j hi hj hij
  have h9:=hs i j (Nat.zero_le _) hij (by rw [← hd']; simpa using hj)
  rw [ltE,getElem!_pos d' j (by simpa using hj),getElem!_pos d' i (by simpa using hi)] at h9
  simp only [decide_eq_false_iff_not,Int.not_lt] at h9
  simpa using h9
 ·refine ⟨by rw [Array.length_toList,hF],.inr ⟨g,c,_,rfl,hgb,hheap,hcap,hmax,?_,?_⟩⟩
  ·unfold Sort.putCells; rw [Array.size_mapIdx,hcs]
  ·rw [← hF]; exact take_put _ _ (by rw [hF,hcs]; omega)
 ·refine ⟨rfl,rfl,rfl,size_sortWorldK_c encE 3 w g 0 m d' os,fun k hk hne=>?_⟩
  unfold sortWorldK
  rw [Sort.heap_grow_old _ _ (by rw [Sort.size_putRowK]; exact hk)]
  show ((w.heap.modify g (Sort.onCells (Sort.putCells id 0 (Sort.flatK encE 3 d')))))[k]?=_
  rw [Array.getElem?_modify,if_neg (fun e=>hne e.symm)]
theorem sort_none (p:Option Addr)(c:Nat)(w:World):Calls Tryz.prog 72 #[.slice p 0 c,.func (.func 73) #[] #[]] w fun e w'=>e=.returned (.tuple #[])∧w'=w :=
 AnyF.slices_SortFunc_none sortR p c _ w
def numsU (f:Nat→Nat)(n:Nat):List Nat:=(List.range n).map fun k=>num (fun q=>f (4 * k+q))
theorem numsU_length (f:Nat→Nat)(n:Nat):(numsU f n).length=n:=by simp [numsU]
theorem ucells_get (l:List Nat)(j z:Nat)(h:l[j]?=some z):(ucells l)[j]?=some (.int .u32 (z:Int)):=by simp [ucells,h]
def partU (f:Nat→Nat)(k i:Nat):Nat:=numUp f (4 * i) (min 4 (k - 4 * i))
def partsU (f:Nat→Nat)(n k:Nat):List Nat:=(List.range n).map (partU f k)
theorem partsU_length (f:Nat→Nat)(n k:Nat):(partsU f n k).length=n:=by simp [partsU]
theorem partsU_zero (f:Nat→Nat)(n:Nat):partsU f n 0=List.replicate n 0:=by
 apply List.ext_getElem?
 intro i
 by_cases hi:i < n
 ·simp [partsU,partU,hi,numUp]
 ·simp [partsU,hi]
theorem partsU_succ (f:Nat→Nat)(n j q:Nat)(hq:q < 4):partsU f n (4 * j+q+1)=(partsU f n (4 * j+q)).set j (numUp f (4 * j) (q+1)):=by
 apply List.ext_getElem?
 intro i
 by_cases hi:i < n
 ·rw [List.getElem?_set]
  by_cases e:j=i
  ·subst e
   simp only [partsU_length,hi,if_true]
   simp [partsU,partU,hi]
   rw [show min 4 (4 * j+q+1 - 4 * j)=q+1 from by omega]
  ·rw [if_neg e]
   simp only [partsU,partU,List.getElem?_map,List.getElem?_range hi,Option.map_some]
   rw [show min 4 (4 * j+q+1 - 4 * i)=min 4 (4 * j+q - 4 * i) from by omega]
 ·rw [List.getElem?_eq_none (by rw [partsU_length]; omega),List.getElem?_eq_none (by rw [List.length_set,partsU_length]; omega)]
theorem partsU_get (f:Nat→Nat)(n j q:Nat)(hq:q < 4)(hj:j < n):(partsU f n (4 * j+q))[j]?=some (numUp f (4 * j) q):=by
 simp [partsU,partU,hj]
 rw [show min 4 q=q from by omega]
theorem partsU_end (f:Nat→Nat)(n:Nat):partsU f n (4 * n)=numsU f n:=by
 apply List.ext_getElem?
 intro i
 by_cases hi:i < n
 ·simp [partsU,partU,numsU,hi]
  rw [show min 4 (4 * n - 4 * i)=4 from by omega,num_up]
  rw [numUp_congr f (fun q=>f (4 * i+q)) (4 * i) 0 4 (fun q _=>by show f (4 * i+q)=f (4 * i+(0+q)); rw [Nat.zero_add])]
 ·rw [List.getElem?_eq_none (by rw [partsU_length]; omega),List.getElem?_eq_none (by rw [numsU_length]; omega)]
theorem or32 (f:Nat→Nat)(j q:Nat)(hq:q < 4)(hf:∀ i,i < 4→f (j+i) < 256):bits .or .u32 ((numUp f j q:Nat):Int) ((f (j+q):Int) * 2 ^ (8 * (3 - q)))=((numUp f j (q+1):Nat):Int)∧f (j+q) * 2 ^ (8 * (3 - q)) < 4294967296:=by
 have hfq:=hf q hq
 have hlt:f (j+q) * 2 ^ (8 * (3 - q)) < 4294967296:=by
  have h1:f (j+q) * 2 ^ (8 * (3 - q)) < 256 * 2 ^ (8 * (3 - q)):=Nat.mul_lt_mul_of_pos_right hfq (Nat.two_pow_pos _)
  have h2:2 ^ (8 * (3 - q))≤2 ^ 24:=Nat.pow_le_pow_right (by omega) (by omega)
  simp only [Nat.reducePow] at h2
  omega
 have e2:(f (j+q):Int) * 2 ^ (8 * (3 - q))=((f (j+q) * 2 ^ (8 * (3 - q)):Nat):Int):=by simp
 have hx:=numUp_lt32 f j q (by omega) (fun i hi=>hf i (by omega))
 refine ⟨?_,hlt⟩
 rw [e2,u32_or_nat _ _ (by simpa using hx) hlt,numUp_or f j q hq hfq]
theorem run_make_u32 (n:Nat)(hn:n≤100000)(w:World):(Instr.makeSlice 31 (.int .i64 (n:Int)) (.int .i64 (n:Int))).run Tryz.prog w =
  .ok (.slice (some ⟨w.heap.size,0,none⟩) n n) (w.alloc (.cells (ucells (List.replicate n 0)).toArray 24)):=by
 obtain ⟨i0,hi0,hz0,hz1,hz2⟩:=info_parts Tryz.infoU32
 have:=run_make (P:=Tryz.prog) w 31 24 i0 _ Tryz.underlying31 hi0 hz0 .i64 .i64 (n:Int) (n:Int) (by omega) (Int.le_refl _) (by rw [hz2]; omega) (by omega)
 simp only [Int.toNat_natCast,hz1,Value.cells,Nat.mul_one] at this
 rw [this]
 congr 3
 apply Array.ext_getElem?
 intro k
 by_cases hk:k < n
 ·simp [madeCells,ucells,hk,Nat.mod_one]
 ·simp [madeCells,ucells,hk]
theorem own_u32s (w:World)(n:Nat)(l:List Nat)(hl:l.length=n)(hn:n≤100000):(w.alloc (.cells (ucells l).toArray 24)).ownsRow w.heap.size 24 1 (.slice (some ⟨w.heap.size,0,none⟩) n n) n (ucells l) :=
 ⟨by rw [ucells_length]; omega,.inr ⟨w.heap.size,n,_,rfl,Nat.le_refl _,by unfold World.alloc; exact Array.getElem?_push_size,Nat.le_refl _,by unfold maxLen; omega,by simp [ucells_length,hl],by rw [Nat.mul_one,← hl,← ucells_length l,List.take_length]⟩⟩
theorem ucells_set (l:List Nat)(j:Nat)(z:Nat):ucells (l.set j z)=(ucells l).set j (.int .u32 (z:Int)):=by simp [ucells,List.map_set]
set_option maxHeartbeats 3200000 in
theorem numbersU_some (b o n c:Nat)(f:Nat→Nat)(w:World)(hn:n≤5000)(hn0:0 < n)(hf:∀ i,i < 4 * n→f i < 256)(hcell:∀ i,i < 4 * n→w.cell? ⟨b,o+i,none⟩=some (.int .u8 (f i:Int))) :
  Calls Tryz.prog 102 #[.slice (some ⟨b,o,none⟩) (4 * n) c] w fun e w'=>e=.returned (.slice (some ⟨w.heap.size,0,none⟩) n n)∧w'.ownsRow w.heap.size 24 1 (.slice (some ⟨w.heap.size,0,none⟩) n n) n (ucells (numsU f n))∧Below w.heap.size w w':=by
 have HC:=hide hcell
 have HF:=hide hf
 clear hcell hf
 have hmk:=fun w=>run_make_u32 n (by omega) w
 have HO0:Hid ((w.alloc (.cells (ucells (List.replicate n 0)).toArray 24)).ownsRow w.heap.size 24 1 (.slice (some ⟨w.heap.size,0,none⟩) n n) n (ucells (partsU f n 0))):=by
  show World.ownsRow _ _ _ _ _ _ _
  rw [partsU_zero]; exact own_u32s w n _ (by simp) (by omega)
 generalize hm:4 * n=m at *
 have hquo:Int.tdiv (m:Int) 4=(n:Int):=by rw [Int.tdiv_eq_ediv_of_nonneg (by omega)]; omega
 have HM:=hide hm
 have hmb:m≤20000:=by omega
 clear hm
 go_enter Tryz.func102,Tryz.ntmps102
 go_wp2
 go_loopw [12] (fun i wq=>∃ k:Nat,k≤m∧i=.int .i64 k∧Hid (wq.ownsRow w.heap.size 24 1 (.slice (some ⟨w.heap.size,0,none⟩) n n) n (ucells (partsU f n k)))∧Hid (Below w.heap.size w wq)) (fun i _=>m - (intOf i).toNat)
 case atStart=>exact ⟨0,Nat.zero_le _,rfl,HO0,(Below.refl _ _).alloc (Nat.le_refl _) _⟩
 case round =>
  obtain ⟨k,hk,rfl,HO,HB⟩:=hrel
  clear HO0
  by_cases hlt:k < m
  ·have ck:wr.cell? ⟨b,o+k,none⟩=some (.int .u8 (f k:Int)):=by
    rw [HB.out.cell (p:=⟨b,o+k,none⟩) (World.block_lt_of_cell? w _ (HC.out k hlt))]
    exact HC.out k hlt
   obtain ⟨j,q,hq4,hjq⟩:∃ j q,q < 4∧k=4 * j+q:=⟨k / 4,k % 4,by omega,by omega⟩
   have hjn:j < n:=by have:=HM.out; omega
   have hj4:Int.tdiv (k:Int) 4=(j:Int):=by rw [Int.tdiv_eq_ediv_of_nonneg (by omega)]; omega
   have hq5:Int.tmod (k:Int) 4=(q:Int):=by rw [Int.tmod_eq_emod_of_nonneg (by omega)]; omega
   have hcj:wr.cell? ⟨w.heap.size,j,none⟩=some (.int .u32 ((numUp f (4 * j) q:Nat):Int)):=by
    rw [HO.out.cellAt j (by rw [Nat.mul_one]; exact hjn),hjq]
    exact ucells_get _ j _ (partsU_get f n j q hq4 hjn)
   have hzj:wr.frozen? ⟨w.heap.size,j,none⟩=false:=HO.out.frozenAt j
   obtain ⟨hor,hlo⟩:=or32 f (4 * j) q hq4 (fun i hi=>HF.out (4 * j+i) (by have:=HM.out; omega))
   have hup:=numUp_lt32 f (4 * j) q (by omega) (fun i hi=>HF.out (4 * j+i) (by have:=HM.out; omega))
   have hst:=HO.out.stored j (.int .u32 ((numUp f (4 * j) (q+1):Nat):Int))
   have HO2:Hid ((wr.setCell ⟨w.heap.size,j,none⟩ (.int .u32 ((numUp f (4 * j) (q+1):Nat):Int))).ownsRow w.heap.size 24 1 (.slice (some ⟨w.heap.size,0,none⟩) n n) n (ucells (partsU f n (k+1)))):=by
    show World.ownsRow _ _ _ _ _ _ _
    rw [hjq,partsU_succ f n j q hq4,ucells_set,← hjq]; exact hst.1
   have HB2:Hid (Below w.heap.size w (wr.setCell ⟨w.heap.size,j,none⟩ (.int .u32 ((numUp f (4 * j) (q+1):Nat):Int)))):=HB.out.setCell (Nat.le_refl _) _
   rw [← hjq] at hor hlo
   have HFK:=HF.out k hlt
   have HOR:=hide hor
   have HLO:=hide hlo
   have HUP:=hide hup
   clear hst hor hlo hup hjq
   generalize numUp f (4 * j) (q+1)=x2 at *
   generalize numUp f (4 * j) q=x1 at *
   generalize f k=y at *
   have hk0:(0:Int)≤(k:Int):=Int.natCast_nonneg _
   have hk1:(k:Int) < (m:Int):=by omega
   have hjn2:(j:Int) < (n:Int):=by omega
   have hj0:(0:Int)≤(j:Int):=Int.natCast_nonneg _
   have wj:IntKind.i64.wrap (j:Int)=(j:Int):=by rw [IntKind.wrap_i64]; omega
   have wy8:IntKind.u32.wrap (y:Int)=(y:Int):=by rw [IntKind.wrap_u32]; omega
   have hqq:8 * (3 - q) < 32:=by omega
   generalize hqe:8 * (3 - q)=qq at *
   have wy:IntKind.u32.wrap ((y:Int) * 2 ^ qq)=(y:Int) * 2 ^ qq:=by
    have e2:(y:Int) * 2 ^ qq=((y * 2 ^ qq:Nat):Int):=by simp
    have:=HLO.out
    rw [e2,IntKind.wrap_u32]
    generalize y * 2 ^ qq=t at *
    omega
   have hz1:w.heap.size < wr.heap.size:=by have:=World.block_lt_of_cell? wr _ hcj; simpa using this
   go_wp2_with fail
   go_region_with (go_at_call 126; refine (shiftA_any q _ hq4).mono ?_; rw [hqe]; rintro e w9 ⟨rfl,rfl⟩)
   all_goals rw [HOR.out]
   all_goals go_wp2
   all_goals exact ⟨⟨k+1,by omega,by go_num,HO2.out.drew,HB2.out.drew⟩,by simp [intOf]; omega⟩
  ·have hkm:k=4 * n:=by have:=HM.out; omega
   subst hkm
   rw [partsU_end] at HO
   go_wp2
   go_ret
   exact ⟨rfl,HO.out,HB.out⟩
set_option maxHeartbeats 800000 in
theorem numbersU_none (a:Option Addr)(c:Nat)(f:Nat→Nat)(w:World) :
  Calls Tryz.prog 102 #[.slice a 0 c] w fun e w'=>e=.returned (.slice (some ⟨w.heap.size,0,none⟩) 0 0)∧w'.ownsRow w.heap.size 24 1 (.slice (some ⟨w.heap.size,0,none⟩) 0 0) 0 (ucells (numsU f 0))∧Below w.heap.size w w':=by
 have hmk:=fun w=>run_make_u32 0 (by omega) w
 simp only [Int.ofNat_zero] at hmk
 have HO0:Hid ((w.alloc (.cells (ucells (List.replicate 0 0)).toArray 24)).ownsRow w.heap.size 24 1 (.slice (some ⟨w.heap.size,0,none⟩) 0 0) 0 (ucells (numsU f 0))):=own_u32s w 0 _ (by simp) (by omega)
 go_enter Tryz.func102,Tryz.ntmps102
 go_wp2
 go_loop [12] (fun i=>i=.int .i64 0) (fun i=>0 - (intOf i).toNat)
 case atStart=>exact rfl
 case round =>
  obtain rfl:=hrel
  go_wp2
  go_ret
  exact ⟨rfl,HO0.out,(Below.refl _ _).alloc (Nat.le_refl _) _⟩
theorem numbersU_any (b o n c:Nat)(f:Nat→Nat)(w:World)(hn:n≤5000)(hf:∀ i,i < 4 * n→f i < 256)(hcell:∀ i,i < 4 * n→w.cell? ⟨b,o+i,none⟩=some (.int .u8 (f i:Int))) :
  Calls Tryz.prog 102 #[.slice (some ⟨b,o,none⟩) (4 * n) c] w fun e w'=>e=.returned (.slice (some ⟨w.heap.size,0,none⟩) n n)∧w'.ownsRow w.heap.size 24 1 (.slice (some ⟨w.heap.size,0,none⟩) n n) n (ucells (numsU f n))∧Below w.heap.size w w':=by
 by_cases h0:n=0
 ·subst h0; exact numbersU_none _ c f w
 ·exact numbersU_some b o n c f w hn (by omega) hf hcell
end Go.Proofs.YtogbjeaceboemaaGreatDoor
