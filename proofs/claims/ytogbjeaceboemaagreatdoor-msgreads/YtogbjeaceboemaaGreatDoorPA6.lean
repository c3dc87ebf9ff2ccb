import Derived.Test.YtogbjeaceboemaaGreatDoorPA2
import Derived.Test.YtogbjeaceboemaaGreatDoorPA5
import Derived.Test.YtogbjeaceboemaaGreatDoorPA1
import Derived.Laws.IdiomStrings
import Derived.Test.YtogbjeaceboemaaGreatDoorPA4
import Derived.Deep.QuietTactic
import Derived.BigQuiet
import Derived.Test.YtogbjeaceboemaaGreatDoorPA0
import Derived.OrdersHeld
import Derived.Deep.MidRow
namespace Go.Proofs.YtogbjeaceboemaaGreatDoor
open Go.RowKit
set_option maxRecDepth 100000
theorem BRd.keeps {F:Nat→Prop}{w w':World}{a:Option Addr}{bs:List Nat} (h:BRd w a bs) (hk:Keeps F w w') (hn:∀ x,a=some x→0 < bs.length→¬ F x.block):BRd w' a bs:=⟨h.1.keeps hk hn,h.2⟩
theorem brd_from {w:World}{b o:Nat}{bs:List Nat} (h:BRd w (some ⟨b,o,none⟩) bs) (k l:Nat) (hk:k+l≤bs.length):BRd w (some ⟨b,o+k,none⟩) ((bs.drop k).take l):=by
 have hle:((bs.drop k).take l).length=l:=by rw [List.length_take,List.length_drop]; omega
 refine ⟨⟨by have:=h.1.1; omega,fun hp=>⟨b,o+k,rfl,fun i hi=>?_⟩⟩,fun x hx=>h.2 x (List.mem_of_mem_drop (List.mem_of_mem_take hx))⟩
 obtain ⟨b9,o9,e9,h8⟩:=h.1.2 (by omega)
 cases e9
 have h9:w.cell? ⟨b,o+(k+i),none⟩=some (.int .u8 (bs.getD (k+i) 0:Int)):=h8 (k+i) (by omega)
 rw [← Nat.add_assoc] at h9
 show _=some (Value.int .u8 ((((bs.drop k).take l).getD i 0:Nat):Int))
 rw [h9,List.getD_eq_getElem?_getD,List.getD_eq_getElem?_getD,List.getElem?_take_of_lt (by omega),List.getElem?_drop]
theorem brd_none (w:World)(a:Option Addr):BRd w a []:=⟨Rw.nil _ _ _,by simp⟩
theorem brd_take {w:World}{a:Option Addr}{bs:List Nat} (h:BRd w a bs) (k:Nat):BRd w a (bs.take k):=by
 refine ⟨⟨by have:=h.1.1; rw [List.length_take]; omega,fun hp=>?_⟩,fun x hx=>h.2 x (List.mem_of_mem_take hx)⟩
 rw [List.length_take] at hp
 obtain ⟨b,o,rfl,hc⟩:=h.1.2 (by omega)
 refine ⟨b,o,rfl,fun i hi=>?_⟩
 rw [List.length_take] at hi
 have h9:w.cell? ⟨b,o+i,none⟩=some (.int .u8 (bs.getD i 0:Int)):=hc i (by omega)
 show _=some (Value.int .u8 (((bs.take k).getD i 0:Nat):Int))
 rw [h9,List.getD_eq_getElem?_getD,List.getD_eq_getElem?_getD,List.getElem?_take_of_lt (by omega)]
theorem own_empty (w:World):(w.alloc (.cells #[] 5)).ownsRow w.heap.size 5 1 (.slice (some ⟨w.heap.size,0,none⟩) 0 0) 0 (bcells []) :=
 ⟨rfl,.inr ⟨w.heap.size,0,#[],rfl,Nat.le_refl _,by unfold World.alloc; exact Array.getElem?_push_size,Nat.le_refl _,by unfold maxLen; omega,rfl,rfl⟩⟩
theorem append_nn {t e size bytes:Nat}(he:Elem t e size bytes)(w:World)(c:Nat) :
  (Builtin.append_ #[t,t] t #[.slice none 0 0,.slice none 0 c]).run Tryz.prog w=.ok (.slice none 0 0) w:=by
 obtain ⟨i,z,hi,_⟩:=he.info
 have ht:=he.sl
 simp [Builtin.append_,run_underlying ht,sizeOf,typeInfo,hi,Builtin.lenOf,Builtin.firstCells,go_sem]
theorem app_any {w:World}{B:Nat}{v:Value}{ys:List Nat} (zs:List Nat) (a:Option Addr) (c:Nat) (ho:w.ownsRow B 5 1 v ys.length (bcells ys)) (hB:B≤w.heap.size) (hl:ys.length+zs.length≤500000) (h:BRd w a zs) :
  ∃ v' w',(Builtin.append_ #[22,22] 22 #[v,.slice a zs.length c]).run Tryz.prog w=.ok v' w'∧w'.ownsRow B 5 1 v' (ys++zs).length (bcells (ys++zs))∧Below B w w':=by
 have ho2:=ho
 rcases ho.2 with ⟨e,h0⟩ | ⟨g,cap,cur,e,_⟩
 ·subst e
  cases a with
  | none =>
   have hz:zs=[]:=by
    cases zs with
    | nil=>rfl
    | cons z r=>obtain ⟨b,off,e,_⟩:=h.1.2 (by simp); cases e
   subst hz
   exact ⟨_,w,append_nn elemU8 w c,by rw [List.append_nil]; exact ho2,Below.refl _ _⟩
  | some ad =>
   have hc:∀ j x,(bcells zs)[j]?=some x→w.cell? (ad.add j)=some x:=fun j x hx=>by
    have hj:j < zs.length:=by have:=(List.getElem?_eq_some_iff.1 hx).1; rwa [bcells_length] at this
    obtain ⟨b,off,e,h5⟩:=h.1.2 (by omega)
    cases e
    rw [Addr.add_mid,h5 j hj,← hx]
    simp [bcells,hj]
   obtain ⟨v',w',hr,h2,h3,_,_⟩:=app_more elemU8 ho2 hB ad zs.length c (bcells zs) (by rw [bcells_length]; omega) hc (bcells_one _) (by omega)
   exact ⟨v',w',hr,by rw [bcells_app,List.length_append]; exact h2,h3⟩
 ·subst e
  exact app_brd zs a c rfl ho2 hB hl h
theorem shl_or (N x:Nat)(hN:N < 16777216)(hx:x < 256):bits .or .i64 ((N:Int) * 256) (x:Int)=((N * 256+x:Nat):Int):=by
 have e:=orI64 (N * 256) x (by omega) (by omega)
 have e2:N * 256 ||| x=N * 256+x:=by
  have:=Nat.two_pow_add_eq_or_of_lt (i:=8) (b:=x) (by simpa using hx) N
  simp only [Nat.reducePow] at this
  rw [Nat.mul_comm,← this]
 rw [e2] at e
 simpa using e
theorem numB_lt (d:List Nat)(h:∀ x∈d,x < 256):numB d < 256 ^ d.length:=by
 have key:∀ (d:List Nat) (n m:Nat),(∀ x∈d,x < 256)→n < m→d.foldl (fun n x=>n * 256+x) n < m * 256 ^ d.length:=by
  intro d
  induction d with
  | nil=>intro n m _ h; simpa using h
  | cons a d ih =>
   intro n m h hn
   have ha:=h a (by simp)
   have:=ih (n * 256+a) (m * 256) (fun x hx=>h x (by simp [hx])) (by omega)
   rw [List.foldl_cons,List.length_cons,Nat.pow_succ,Nat.mul_comm (256 ^ d.length),← Nat.mul_assoc]
   exact this
 have h9:=key d 0 1 h (by omega)
 rw [Nat.one_mul] at h9
 exact h9
theorem take_lt {d:List Nat}(h:∀ x∈d,x < 256)(k:Nat):∀ x∈d.take k,x < 256:=fun x hx=>h x (List.mem_of_mem_take hx)
set_option maxHeartbeats 800000 in
theorem numof_any (b o n cap:Nat)(bs:List Nat)(w:World)(hn:bs.length=n)(h4:n≤4)(hlt:∀ x∈bs,x < 256)(hc:∀ i,i < n→w.cell? ⟨b,o+i,none⟩=some (.int .u8 (bs.getD i 0:Int))) :
  Calls Tryz.prog 121 #[.slice (some ⟨b,o,none⟩) n cap] w fun e w'=>e=.returned (.int .i64 (numB bs:Int))∧w'=w:=by
 have HC:=hide hc
 have HL:=hide hlt
 have HN:=hide hn
 clear hc hlt hn
 go_enter Tryz.func121,Tryz.ntmps121
 go_wp2
 go_loop [3,8] (fun u i=>∃ k N:Nat,k≤n∧i=.int .i64 k∧u=.int .i64 (N:Int)∧Hid (N=numB (bs.take k))) (fun _ i=>n - (intOf i).toNat)
 case atStart=>exact ⟨0,0,Nat.zero_le _,rfl,rfl,rfl⟩
 case round =>
  obtain ⟨k,N,hk,rfl,rfl,HNK⟩:=hrel
  by_cases hlt:k < n
  ·have hkl:k < bs.length:=by rw [HN.out]; exact hlt
   have ck:=HC.out k hlt
   have zk:=World.block_lt_of_cell? w _ ck
   simp only at zk
   have hx:bs.getD k 0 < 256:=getD_lt256 HL.out k
   have hN:N < 16777216:=by
    have h9:=numB_lt (bs.take k) (take_lt HL.out k)
    rw [← HNK.out,List.length_take,Nat.min_eq_left (by omega)] at h9
    have h8:(256:Nat) ^ k≤256 ^ 3:=Nat.pow_le_pow_right (by omega) (by omega)
    simp only [Nat.reducePow] at h8
    omega
   have HNN:Hid (N * 256+bs.getD k 0=numB (bs.take (k+1))):=by
    show _=_
    rw [List.take_succ_eq_append_getElem hkl,numB_snoc,← HNK.out,List.getD_eq_getElem?_getD,List.getElem?_eq_getElem hkl]; rfl
   have hor:=shl_or N (bs.getD k 0) hN hx
   generalize bs.getD k 0=x at *
   clear HNK
   have hk0:(0:Int)≤(k:Int):=Int.natCast_nonneg _
   have hk1:(k:Int) < (n:Int):=by omega
   go_wp2
   exact ⟨⟨k+1,N * 256+x,by omega,by go_num,rfl,HNN⟩,by simp [intOf]; omega⟩
  ·have hke:bs.take k=bs:=List.take_of_length_le (by rw [HN.out]; omega)
   go_wp2
   go_ret
   exact ⟨ret_int (by rw [HNK.out,hke]),rfl⟩
def UniRes (w:World)(X s:Nat)(r:Option (List Nat))(e:Ending):Prop:=match r with
 | none=>e=.returned (.tuple #[.slice none 0 0,.bool false])
 | some u=>∃ b o c,e=.returned (.tuple #[.slice (some ⟨b,o,none⟩) s c,.bool true])∧b≠X∧s≤c∧u.length=s∧(∀ x∈u,x < 256)∧∀ i,i < s→w.cell? ⟨b,o+i,none⟩=some (.int .u8 (u.getD i 0:Int))
theorem str3 (w:World)(b o c:Nat)(x0 x1 x2:Nat)(h0:x0 < 256)(h1:x1 < 256)(h2:x2 < 256)(c0:w.cell? ⟨b,o,none⟩=some (.int .u8 (x0:Int)))(c1:w.cell? ⟨b,o+1,none⟩=some (.int .u8 (x1:Int)))(c2:w.cell? ⟨b,o+2,none⟩=some (.int .u8 (x2:Int))) :
  (convert 22 9 (.slice (some ⟨b,o,none⟩) 3 c)).run Tryz.prog w=.ok (.string ⟨#[UInt8.ofNat x0,UInt8.ofNat x1,UInt8.ofNat x2]⟩) w:=by
 have e:∀ x,x < 256→(UInt8.ofNat x).toNat=x:=fun x hx=>by simp; omega
 refine run_convert_bytes_back (P:=Tryz.prog) w 22 9 5 ⟨b,o,none⟩ c [UInt8.ofNat x0,UInt8.ofNat x1,UInt8.ofNat x2] Tryz.underlying22 Tryz.underlying5 Tryz.underlying9 (fun j hj=>?_)
 match j,hj with
 | 0,_=>show w.cell? _=some (.int .u8 (((UInt8.ofNat x0).toNat:Nat):Int)); rw [e x0 h0]; simpa [Addr.add] using c0
 | 1,_=>show w.cell? _=some (.int .u8 (((UInt8.ofNat x1).toNat:Nat):Int)); rw [e x1 h1]; simpa [Addr.add] using c1
 | 2,_=>show w.cell? _=some (.int .u8 (((UInt8.ofNat x2).toNat:Nat):Int)); rw [e x2 h2]; simpa [Addr.add] using c2
theorem take3 {r:List Nat}(h:3≤r.length):r.take 3=[r.getD 0 0,r.getD 1 0,r.getD 2 0]:=by
 match r,h with
 | a :: b :: c :: _,_=>rfl
theorem str3_eq (x0 x1 x2:Nat)(h0:x0 < 256)(h1:x1 < 256)(h2:x2 < 256):((⟨#[UInt8.ofNat x0,UInt8.ofNat x1,UInt8.ofNat x2]⟩:ByteArray)=⟨#[0,1,1]⟩)↔[x0,x1,x2]=[0,1,1]:=by
 have e:∀ x,x < 256→(UInt8.ofNat x).toNat=x:=fun x hx=>by simp; omega
 constructor
 ·intro h
  simp only [ByteArray.mk.injEq,Array.mk.injEq,List.cons.injEq,and_true] at h
  have k0:=congrArg UInt8.toNat h.1
  have k1:=congrArg UInt8.toNat h.2.1
  have k2:=congrArg UInt8.toNat h.2.2
  rw [e _ h0] at k0
  rw [e _ h1] at k1
  rw [e _ h2] at k2
  rw [k0,k1,k2]; rfl
 ·intro h
  simp only [List.cons.injEq,and_true] at h
  rw [h.1,h.2.1,h.2.2]; rfl
set_option maxHeartbeats 1600000 in
theorem fstu_any (X:Nat)(a:Option Addr)(c:Nat)(bs:List Nat)(s:Nat)(w:World)(hs:3≤s)(hs2:s≤7)(hl:bs.length≤10000)(hcap:bs.length≤c)(h:BRd w a bs)(hne:∀ x,a=some x→0 < bs.length→x.block≠X) :
  Calls Tryz.prog 123 #[.slice a bs.length c,.int .i64 (s:Int)] w fun e w'=>UniRes w X s (fstU s bs) e∧w'=w:=by
 have HB0:=hide h
 have HX0:=hide hne
 clear h hne
 go_enter Tryz.func123,Tryz.ntmps123
 go_wp2
 go_loop [0] (fun u=>∃ (rest:List Nat) (a:Option Addr) (n c:Nat),u=.slice a n c∧Hid (rest.length=n)∧n≤c∧n≤10000∧Hid (fstU s bs=fstU s rest)∧Hid (BRd w a rest)∧Hid (∀ x,a=some x→0 < n→x.block≠X)) (fun u=>sliceLen u)
 case atStart=>exact ⟨bs,a,_,c,rfl,rfl,hcap,hl,rfl,HB0,HX0⟩
 case round =>
  obtain ⟨rest,a1,n,c1,rfl,HN,hnc,hn,HF,HB,HX⟩:=hrel
  by_cases hlt:n < s
  ·have HU:Hid (UniRes w X s (fstU s bs) (.returned (.tuple #[.slice none 0 0,.bool false]))):=by
    show UniRes _ _ _ _ _
    rw [HF.out,fstU_end (by rw [HN.out]; exact hlt)]; rfl
   go_wp2
   go_ret2
   exact ⟨HU.out,rfl⟩
  ·obtain ⟨b,o,rfl,hc⟩:=HB.out.1.2 (by rw [HN.out]; omega)
   have HC:=hide hc
   have hr3:3≤rest.length:=by rw [HN.out]; omega
   have x0:=hc 0 (by omega)
   have x1:=hc 1 (by omega)
   have x2:=hc 2 (by omega)
   have hcv:=str3 w b o c1 (rest.getD 0 0) (rest.getD 1 0) (rest.getD 2 0) (getD_lt256 HB.out.2 0) (getD_lt256 HB.out.2 1) (getD_lt256 HB.out.2 2) x0 x1 x2
   have HQ:=hide (str3_eq (rest.getD 0 0) (rest.getD 1 0) (rest.getD 2 0) (getD_lt256 HB.out.2 0) (getD_lt256 HB.out.2 1) (getD_lt256 HB.out.2 2))
   rw [← take3 hr3] at HQ
   have HR3:=hide hr3
   clear hc x0 x1 x2 hr3
   generalize (⟨#[UInt8.ofNat (rest.getD 0 0),UInt8.ofNat (rest.getD 1 0),UInt8.ofNat (rest.getD 2 0)]⟩:ByteArray)=S at *
   by_cases hq:S=⟨#[0,1,1]⟩
   ·have HU:Hid (UniRes w X s (fstU s bs) (.returned (.tuple #[.slice (some ⟨b,o,none⟩) s c1,.bool true]))):=by
     show UniRes _ _ _ _ _
     rw [HF.out,fstU_hit (by rw [HN.out]; exact hlt) (HQ.out.1 hq)]
     refine ⟨b,o,c1,rfl,HX.out _ rfl (by omega),by omega,by rw [List.length_take,HN.out]; omega,take_lt HB.out.2 s,fun i hi=>?_⟩
     have h9:w.cell? ⟨b,o+i,none⟩=some (.int .u8 (rest.getD i 0:Int)):=HC.out i (by rw [HN.out]; omega)
     rw [h9,List.getD_eq_getElem?_getD,List.getD_eq_getElem?_getD,List.getElem?_take_of_lt hi]
    clear HF HB HC HQ
    subst hq
    go_wp2
    go_ret2
    exact ⟨HU.out,rfl⟩
   ·have HF2:Hid (fstU s bs=fstU s (rest.drop s)):=by
     show _=_
     rw [HF.out,fstU_miss (by omega) (by rw [HN.out]; exact hlt) (fun h=>hq (HQ.out.2 h))]
    have HN2:Hid ((rest.drop s).length=n - s):=by show _=_; rw [List.length_drop,HN.out]
    have hq2:(S.toList == [0,1,1])=false:=by
     rw [ByteArray.toList_eq,Bool.eq_false_iff]
     intro h9
     refine hq ?_
     obtain ⟨⟨l⟩⟩:=S
     rw [show l=[0,1,1] from by simpa using h9]
    have hns:(s:Int)≤(n:Int):=by omega
    clear HF HQ hq
    by_cases hcs:c1=s
    ·have HB2:Hid (BRd w (some ⟨b,o,none⟩) (rest.drop s)):=by
      have h0:rest.drop s=[]:=List.drop_eq_nil_of_le (by rw [HN.out]; omega)
      show BRd _ _ _
      rw [h0]
      exact ⟨Rw.nil _ _ _,by simp⟩
     have hcs2:=hcs.symm
     subst hcs2
     go_wp2
     exact ⟨⟨rest.drop s,_,_,_,rfl,by show (rest.drop s).length=0; rw [HN2.out]; omega,by omega,by omega,HF2,HB2,fun x _ h0=>absurd h0 (by omega)⟩,by simp [sliceLen]; omega⟩
    ·have HB2:Hid (BRd w (some ⟨b,o+s,none⟩) (rest.drop s)):=by
      refine ⟨⟨by unfold maxLen; rw [HN2.out]; omega,fun _=>⟨b,o+s,rfl,fun i hi=>?_⟩⟩,fun x hx=>HB.out.2 x (List.mem_of_mem_drop hx)⟩
      rw [HN2.out] at hi
      have h9:w.cell? ⟨b,o+(s+i),none⟩=some (.int .u8 (rest.getD (s+i) 0:Int)):=HC.out (s+i) (by rw [HN.out]; omega)
      rw [← Nat.add_assoc] at h9
      show _=some (Value.int .u8 (((rest.drop s).getD i 0:Nat):Int))
      rw [h9,List.getD_eq_getElem?_getD,List.getD_eq_getElem?_getD,List.getElem?_drop]
     go_wp2
     exact ⟨⟨rest.drop s,_,_,_,rfl,HN2,by omega,by omega,HF2,HB2,fun x hx _=>by cases hx; exact HX.out ⟨b,o,none⟩ rfl (by omega)⟩,by simp [sliceLen]; omega⟩
def hdSize (bs:List Nat):Nat:=256 * bs.getD 16 0+bs.getD 17 0
def hdKind (bs:List Nat):Nat:=bs.getD 18 0
def leastOf (k:Nat):Nat:=if k=1 then 29 else if k=2 then 23 else if k=3 then 21 else 19
def mostOf (k:Nat):Nat:=if k=4 then 19 else 4096
def headM (bs:List Nat):Nat×Nat×Nat×List Nat :=
 if bs.length < 19 then (0,0,0,[])
 else if bs.take 16≠List.replicate 16 255 then (0,1,1,[])
 else if hdSize bs < 19∨4096 < hdSize bs then (0,1,2,(bs.drop 16).take 2)
 else if hdKind bs < 1∨4 < hdKind bs then (0,1,3,(bs.drop 18).take 1)
 else if hdSize bs < leastOf (hdKind bs)∨mostOf (hdKind bs) < hdSize bs then (0,1,2,(bs.drop 16).take 2)
 else (hdSize bs,0,0,[])
theorem headM_short {bs:List Nat}(h:bs.length < 19):headM bs=(0,0,0,[]):=by unfold headM; rw [if_pos h]
theorem headM_mark {bs:List Nat}(h:¬ bs.length < 19)(h1:bs.take 16≠List.replicate 16 255):headM bs=(0,1,1,[]):=by unfold headM; rw [if_neg h,if_pos h1]
theorem headM_size {bs:List Nat}(h:¬ bs.length < 19)(h1:¬ bs.take 16≠List.replicate 16 255)(h2:hdSize bs < 19∨4096 < hdSize bs):headM bs=(0,1,2,(bs.drop 16).take 2):=by unfold headM; rw [if_neg h,if_neg h1,if_pos h2]
theorem headM_kind {bs:List Nat}(h:¬ bs.length < 19)(h1:¬ bs.take 16≠List.replicate 16 255)(h2:¬ (hdSize bs < 19∨4096 < hdSize bs))(h3:hdKind bs < 1∨4 < hdKind bs):headM bs=(0,1,3,(bs.drop 18).take 1):=by unfold headM; rw [if_neg h,if_neg h1,if_neg h2,if_pos h3]
theorem headM_said {bs:List Nat}(h:¬ bs.length < 19)(h1:¬ bs.take 16≠List.replicate 16 255)(h2:¬ (hdSize bs < 19∨4096 < hdSize bs))(h3:¬ (hdKind bs < 1∨4 < hdKind bs))(h4:hdSize bs < leastOf (hdKind bs)∨mostOf (hdKind bs) < hdSize bs):headM bs=(0,1,2,(bs.drop 16).take 2):=by unfold headM; rw [if_neg h,if_neg h1,if_neg h2,if_neg h3,if_pos h4]
theorem headM_good {bs:List Nat}(h:¬ bs.length < 19)(h1:¬ bs.take 16≠List.replicate 16 255)(h2:¬ (hdSize bs < 19∨4096 < hdSize bs))(h3:¬ (hdKind bs < 1∨4 < hdKind bs))(h4:¬ (hdSize bs < leastOf (hdKind bs)∨mostOf (hdKind bs) < hdSize bs)):headM bs=(hdSize bs,0,0,[]):=by unfold headM; rw [if_neg h,if_neg h1,if_neg h2,if_neg h3,if_neg h4]
set_option maxHeartbeats 800000 in
theorem mnumof_any (b o n cap:Nat)(bs:List Nat)(w:World)(hn:bs.length=n)(h4:n≤4)(hlt:∀ x∈bs,x < 256)(hc:∀ i,i < n→w.cell? ⟨b,o+i,none⟩=some (.int .u8 (bs.getD i 0:Int))) :
  Calls Tryz.prog 41 #[.slice (some ⟨b,o,none⟩) n cap] w fun e w'=>e=.returned (.int .i64 (numB bs:Int))∧w'=w:=by
 have HC:=hide hc
 have HL:=hide hlt
 have HN:=hide hn
 clear hc hlt hn
 go_enter Tryz.func41,Tryz.ntmps41
 go_wp2
 go_loop [3,8] (fun u i=>∃ k N:Nat,k≤n∧i=.int .i64 k∧u=.int .i64 (N:Int)∧Hid (N=numB (bs.take k))) (fun _ i=>n - (intOf i).toNat)
 case atStart=>exact ⟨0,0,Nat.zero_le _,rfl,rfl,rfl⟩
 case round =>
  obtain ⟨k,N,hk,rfl,rfl,HNK⟩:=hrel
  by_cases hlt:k < n
  ·have hkl:k < bs.length:=by rw [HN.out]; exact hlt
   have ck:=HC.out k hlt
   have zk:=World.block_lt_of_cell? w _ ck
   simp only at zk
   have hx:bs.getD k 0 < 256:=getD_lt256 HL.out k
   have hN:N < 16777216:=by
    have h9:=numB_lt (bs.take k) (take_lt HL.out k)
    rw [← HNK.out,List.length_take,Nat.min_eq_left (by omega)] at h9
    have h8:(256:Nat) ^ k≤256 ^ 3:=Nat.pow_le_pow_right (by omega) (by omega)
    simp only [Nat.reducePow] at h8
    omega
   have HNN:Hid (N * 256+bs.getD k 0=numB (bs.take (k+1))):=by
    show _=_
    rw [List.take_succ_eq_append_getElem hkl,numB_snoc,← HNK.out,List.getD_eq_getElem?_getD,List.getElem?_eq_getElem hkl]; rfl
   have hor:=shl_or N (bs.getD k 0) hN hx
   generalize bs.getD k 0=x at *
   clear HNK
   have hk0:(0:Int)≤(k:Int):=Int.natCast_nonneg _
   have hk1:(k:Int) < (n:Int):=by omega
   go_wp2
   exact ⟨⟨k+1,N * 256+x,by omega,by go_num,rfl,HNN⟩,by simp [intOf]; omega⟩
  ·have hke:bs.take k=bs:=List.take_of_length_le (by rw [HN.out]; omega)
   go_wp2
   go_ret
   exact ⟨ret_int (by rw [HNK.out,hke]),rfl⟩
def flatB (ps:List (Option Addr×Nat×List Nat)):List Nat:=(ps.map fun x=>x.2.2).flatten
theorem flatB_snoc {ps:List (Option Addr×Nat×List Nat)}{k:Nat}{x:Option Addr×Nat×List Nat} (h:ps[k]?=some x):flatB (ps.take (k+1))=flatB (ps.take k)++x.2.2:=by
 rw [List.take_add_one,h]; simp [flatB]
theorem flatB_le (ps:List (Option Addr×Nat×List Nat))(k:Nat):(flatB (ps.take k)).length≤(flatB ps).length:=by
 have h:flatB ps=flatB (ps.take k)++flatB (ps.drop k):=by
  unfold flatB
  rw [← List.flatten_append,← List.map_append,List.take_append_drop]
 rw [h,List.length_append]
 omega
section
attribute [local go_sem ↓] kept_append
set_option maxHeartbeats 1600000 in
theorem obo_any (g o c:Nat)(ps:List (Option Addr×Nat×List Nat))(w:World)(hps:ps.length≤1000)(hc:∀ i x,ps[i]?=some x→w.cell? ⟨g,o+i,none⟩=some (.slice x.1 x.2.2.length x.2.1))(hb:∀ x∈ps,BRd w x.1 x.2.2)(hl:(flatB ps).length≤100000) :
  Calls Tryz.prog 39 #[.slice (some ⟨g,o,none⟩) ps.length c] w fun e w'=>∃ v,e=.returned v∧w'.ownsRow w.heap.size 5 1 v (flatB ps).length (bcells (flatB ps))∧Below w.heap.size w w':=by
 have HC:=hide hc
 have HB:=hide hb
 have HL:=hide hl
 clear hc hb hl
 obtain ⟨n,hn⟩:∃ n,n=ps.length:=⟨_,rfl⟩
 have HN:=hide hn
 rw [← hn] at hps ⊢
 clear hn
 go_enter Tryz.func39,Tryz.ntmps39
 go_wp2
 go_loopw [3,8] (fun v i wq=>∃ k:Nat,k≤n∧i=.int .i64 k∧Hid (wq.ownsRow w.heap.size 5 1 v (flatB (ps.take k)).length (bcells (flatB (ps.take k))))∧Hid (Below w.heap.size w wq)) (fun _ i _=>n - (intOf i).toNat)
 case atStart=>exact ⟨0,Nat.zero_le _,rfl,own_nil _ _ _ _,Below.refl _ _⟩
 case round =>
  obtain ⟨k,hk,rfl,HO,HW⟩:=hrel
  by_cases hlt:k < n
  ·have hkl:k < ps.length:=by rw [← HN.out]; exact hlt
   have hx:=List.getElem?_eq_getElem hkl
   generalize ps[k]=x at hx
   have ck0:=HC.out k x hx
   have zk0:=World.block_lt_of_cell? w _ ck0
   have ck:wr.cell? ⟨g,o+k,none⟩=some (.slice x.1 x.2.2.length x.2.1):=by rw [HW.out.cell (p:=⟨g,o+k,none⟩) zk0]; exact ck0
   have zk:=World.block_lt_of_cell? wr _ ck
   simp only at zk
   have hsum:=flatB_le ps (k+1)
   rw [flatB_snoc hx,List.length_append] at hsum
   obtain ⟨v',w',hr,ho,hb2⟩:=app_any x.2.2 x.1 x.2.1 HO.out HW.out.size (by have:=HL.out; omega) ((HB.out x (List.mem_of_getElem? hx)).below HW.out)
   rw [← flatB_snoc hx] at ho
   have HR:=hide hr
   have HO2:=hide ho
   have HB2:=hide (HW.out.trans hb2)
   clear hr ho hb2 hsum ck0 zk0 HO hx hkl
   obtain ⟨xa,xc,xb⟩:=x
   simp only at *
   generalize xb.length=m at *
   have hk0:(0:Int)≤(k:Int):=Int.natCast_nonneg _
   have hk1:(k:Int) < (n:Int):=by omega
   go_wp2_with (refine kept_append_intro _ _ _ _ v' (w':=w') (by rfl) (by rfl) (by exact HR.out) ?_)
   exact ⟨⟨k+1,by omega,by go_num,HO2,HB2⟩,by simp [intOf]; omega⟩
  ·have hke:ps.take k=ps:=List.take_of_length_le (by rw [← HN.out]; omega)
   have HO2:=HO
   rw [hke] at HO2
   clear hke HO
   go_wp2
   go_ret
   exact ⟨_,rfl,HO2.out,HW.out⟩
end
theorem make_u8 (n:Nat)(hn:n≤100000)(w:World):(Instr.makeSlice 22 (.int .i64 (n:Int)) (.int .i64 (n:Int))).run Tryz.prog w =
  .ok (.slice (some ⟨w.heap.size,0,none⟩) n n) (w.alloc (.cells (bcells (List.replicate n 0)).toArray 5)):=by
 obtain ⟨i0,hi0,hz0,hz1,hz2⟩:=info_parts Tryz.infoU8
 have:=run_make (P:=Tryz.prog) w 22 5 i0 _ Tryz.underlying22 hi0 hz0 .i64 .i64 (n:Int) (n:Int) (by omega) (Int.le_refl _) (by rw [hz2]; omega) (by omega)
 simp only [Int.toNat_natCast,hz1,Value.cells,Nat.mul_one] at this
 rw [this]
 congr 3
 apply Array.ext_getElem?
 intro k
 by_cases hk:k < n
 ·simp [madeCells,bcells,hk,Nat.mod_one]
 ·simp [madeCells,bcells,hk]
theorem make_two (w:World):(Instr.makeSlice 22 (.int .i64 2) (.int .i64 2)).run Tryz.prog w=.ok (.slice (some ⟨w.heap.size,0,none⟩) 2 2) (w.alloc (.cells #[.int .u8 0,.int .u8 0] 5)):=make_u8 2 (by omega) w
theorem make_one (w:World):(Instr.makeSlice 22 (.int .i64 1) (.int .i64 1)).run Tryz.prog w=.ok (.slice (some ⟨w.heap.size,0,none⟩) 1 1) (w.alloc (.cells #[.int .u8 0] 5)):=make_u8 1 (by omega) w
set_option maxHeartbeats 800000 in
theorem number_two (n:Nat)(w:World)(hn:n < 65536):Calls Tryz.prog 40 #[.int .i64 (n:Int),.int .i64 2] w fun e w' =>
  e=.returned (.slice (some ⟨w.heap.size,0,none⟩) 2 2)∧w'=w.alloc (.cells #[.int .u8 ((n:Int) / 256),.int .u8 ((n:Int) % 256)] 5):=by
 have hmk:=make_two w
 go_enter Tryz.func40,Tryz.ntmps40
 go_wp2
 go_loopw [11] (fun i wq=>(i=.int .i64 0∧wq=w.alloc (.cells #[.int .u8 0,.int .u8 0] 5))∨(i=.int .i64 1∧wq=w.alloc (.cells #[.int .u8 ((n:Int) / 256),.int .u8 0] 5))∨(i=.int .i64 2∧wq=w.alloc (.cells #[.int .u8 ((n:Int) / 256),.int .u8 ((n:Int) % 256)] 5))) (fun i _=>2 - (intOf i).toNat)
 case atStart=>exact .inl ⟨rfl,rfl⟩
 case round =>
  rcases hrel with ⟨rfl,rfl⟩ | ⟨rfl,rfl⟩ | ⟨rfl,rfl⟩
  ·go_wp2
   exact ⟨.inr (.inl ⟨rfl,trivial⟩),by simp [intOf]⟩
  ·go_wp2
   exact ⟨.inr (.inr ⟨rfl,trivial⟩),by simp [intOf]⟩
  ·go_wp2
   go_ret
   exact ⟨rfl,rfl⟩
set_option maxHeartbeats 800000 in
theorem number_one (n:Nat)(w:World)(hn:n < 256):Calls Tryz.prog 40 #[.int .i64 (n:Int),.int .i64 1] w fun e w' =>
  e=.returned (.slice (some ⟨w.heap.size,0,none⟩) 1 1)∧w'=w.alloc (.cells #[.int .u8 (n:Int)] 5):=by
 have hmk:=make_one w
 go_enter Tryz.func40,Tryz.ntmps40
 go_wp2
 go_loopw [11] (fun i wq=>(i=.int .i64 0∧wq=w.alloc (.cells #[.int .u8 0] 5))∨(i=.int .i64 1∧wq=w.alloc (.cells #[.int .u8 (n:Int)] 5))) (fun i _=>1 - (intOf i).toNat)
 case atStart=>exact .inl ⟨rfl,rfl⟩
 case round =>
  rcases hrel with ⟨rfl,rfl⟩ | ⟨rfl,rfl⟩
  ·go_wp2
   exact ⟨.inr ⟨rfl,trivial⟩,by simp [intOf]⟩
  ·go_wp2
   go_ret
   exact ⟨rfl,rfl⟩
def NoteIs (B:Nat)(w:World)(u:Value)(c s:Nat)(d:List Nat):Prop:=∃ a cap,u=.agg #[.int .i64 (c:Int),.int .i64 (s:Int),.slice a d.length cap]∧w.ownsRow B 5 1 (.slice a d.length cap) d.length (bcells d)
set_option maxHeartbeats 1600000 in
theorem noteof_any (c s:Nat)(a:Option Addr)(cap:Nat)(d:List Nat)(w:World)(hl:d.length≤50000)(h:BRd w a d) :
  Calls Tryz.prog 24 #[.int .i64 (c:Int),.int .i64 (s:Int),.slice a d.length cap] w fun e w'=>∃ u,e=.returned u∧NoteIs w.heap.size w' u c s d∧Below w.heap.size w w':=by
 have hb1:Below w.heap.size w ((w.alloc (.cells #[.int .i64 0,.int .i64 0,.slice none 0 0] 38)).alloc (.cells #[.slice a d.length cap] 22)):=((Below.refl _ _).alloc (Nat.le_refl _) _).alloc (by simp) _
 have hfl:flatB [(a,cap,d)]=d:=by simp [flatB]
 have K:=obo_any (w.heap.size+1) 0 1 [(a,cap,d)] ((w.alloc (.cells #[.int .i64 0,.int .i64 0,.slice none 0 0] 38)).alloc (.cells #[.slice a d.length cap] 22)) (by simp) (fun i x hx=>by
  match i with
  | 0 =>
   simp at hx
   subst hx
   simp [go_sem]
  | i+1=>simp at hx) (fun x hx=>by simp at hx; subst hx; exact h.below hb1) (by rw [hfl]; omega)
 rw [hfl] at K
 have K2:Hid (Calls Tryz.prog 39 #[.slice (some ⟨w.heap.size+1,0,none⟩) 1 1] ((w.alloc (.cells #[.int .i64 0,.int .i64 0,.slice none 0 0] 38)).alloc (.cells #[.slice a d.length cap] 22)) fun e w3=>∃ a9 c9,e=.returned (.slice a9 d.length c9)∧Hid (w3.ownsRow (w.heap.size+1) 5 1 (.slice a9 d.length c9) d.length (bcells d))∧Hid (Below w.heap.size w w3)∧w.heap.size < w3.heap.size ∧
   w3.cell? ⟨w.heap.size,0,none⟩=some (.int .i64 0)∧w3.cell? ⟨w.heap.size,1,none⟩=some (.int .i64 0)∧w3.cell? ⟨w.heap.size,2,none⟩=some (.slice none 0 0)∧w3.frozen? ⟨w.heap.size,0,none⟩=false∧w3.frozen? ⟨w.heap.size,1,none⟩=false∧w3.frozen? ⟨w.heap.size,2,none⟩=false):=by
  refine K.mono ?_
  rintro e w3 ⟨v,rfl,ho,hb3⟩
  obtain ⟨a9,c9,rfl⟩:=own_shape ho
  simp only [World.size_alloc] at ho hb3
  have hc:∀ j,w3.cell? ⟨w.heap.size,j,none⟩=_:=fun j=>hb3.cell (p:=⟨w.heap.size,j,none⟩) (by show w.heap.size < w.heap.size+1+1; omega)
  have hf:∀ j,w3.frozen? ⟨w.heap.size,j,none⟩=_:=fun j=>hb3.frozen (p:=⟨w.heap.size,j,none⟩) (by show w.heap.size < w.heap.size+1+1; omega)
  refine ⟨a9,c9,rfl,own_low ho (by omega),hb1.trans (hb3.mono (by omega)),by have:=hb3.size; simp at this; omega,?_,?_,?_,?_,?_,?_⟩
  ·rw [hc]; simp [go_sem]
  ·rw [hc]; simp [go_sem]
  ·rw [hc]; simp [go_sem]
  ·rw [hf]; simp [go_sem]
  ·rw [hf]; simp [go_sem]
  ·rw [hf]; simp [go_sem]
 clear K hb1 hfl h
 unfold NoteIs
 generalize d.length=n at *
 go_enter Tryz.func24,Tryz.ntmps24
 go_wp2_with fail
 refine K2.out.mono ?_
 rintro e w3 ⟨a9,c9,rfl,HO,HB,hz3,r0,r1,r2,f0,f1,f2⟩
 go_wp2_with fail
 refine bodyPost_ret (v:=.agg #[.int .i64 c,.int .i64 s,.slice a9 n c9]) (by simp [results,Tryz.results24,go_sem,r0,r1,r2]) rfl ⟨_,rfl,⟨a9,c9,rfl,?_⟩,?_⟩
 ·exact own_low (own_under (own_under (own_under HO.out (by omega) _ _) (by omega) _ _) (by omega) _ _) (by omega)
 ·exact ((HB.out.setCell (Nat.le_refl _) _).setCell (Nat.le_refl _) _).setCell (Nat.le_refl _) _
def NtBox (w:World)(X:Nat):Prop:=X < w.heap.size∧w.cell? ⟨X,0,none⟩=some (.int .i64 0)∧w.cell? ⟨X,1,none⟩=some (.int .i64 0)∧w.cell? ⟨X,2,none⟩=some (.slice none 0 0)∧w.frozen? ⟨X,0,none⟩=false∧w.frozen? ⟨X,1,none⟩=false∧w.frozen? ⟨X,2,none⟩=false
theorem NtBox.below {w w':World}{X B:Nat} (h:NtBox w X) (hb:Below B w w') (hX:X < B):NtBox w' X:=by
 obtain ⟨h0,h1,h2,h3,h4,h5,h6⟩:=h
 have hc:∀ j,w'.cell? ⟨X,j,none⟩=w.cell? ⟨X,j,none⟩:=fun j=>hb.cell (p:=⟨X,j,none⟩) hX
 have hf:∀ j,w'.frozen? ⟨X,j,none⟩=w.frozen? ⟨X,j,none⟩:=fun j=>hb.frozen (p:=⟨X,j,none⟩) hX
 exact ⟨Nat.lt_of_lt_of_le h0 hb.size,by rw [hc]; exact h1,by rw [hc]; exact h2,by rw [hc]; exact h3,by rw [hf]; exact h4,by rw [hf]; exact h5,by rw [hf]; exact h6⟩
theorem NtBox.made (w:World):NtBox (w.alloc (.cells #[.int .i64 0,.int .i64 0,.slice none 0 0] 38)) w.heap.size:=by
 refine ⟨by simp,?_,?_,?_,?_,?_,?_⟩ <;> simp [go_sem]
theorem noteof_box (c s:Nat)(a:Option Addr)(cap n:Nat)(d:List Nat)(W:World)(X:Nat)(hn:d.length=n)(hl:n≤50000)(h:BRd W a d)(hX:NtBox W X) :
  Calls Tryz.prog 24 #[.int .i64 (c:Int),.int .i64 (s:Int),.slice a n cap] W fun e w'=>∃ a9 c9,e=.returned (.agg #[.int .i64 (c:Int),.int .i64 (s:Int),.slice a9 n c9])∧Hid (w'.ownsRow W.heap.size 5 1 (.slice a9 n c9) n (bcells d))∧Hid (Below W.heap.size W w')∧Hid (NtBox w' X):=by
 subst hn
 refine (noteof_any c s a cap d W hl h).mono ?_
 rintro e w' ⟨u,rfl,⟨a9,c9,rfl,ho⟩,hb⟩
 exact ⟨a9,c9,rfl,ho,hb,hX.below hb hX.1⟩
def saidML:List Int:=[0,0,29,4096,23,4096,21,4096,19,19]
def SaidM (w:World):Prop:=∀ k z,saidML[k]?=some z→w.cell? ⟨0,k,none⟩=some (.int .i64 z)
theorem SaidM.pos {w:World}(h:SaidM w):0 < w.heap.size:=by
 have:=World.block_lt_of_cell? w _ (h 0 0 rfl)
 simpa using this
theorem SaidM.below {w w':World}(h:SaidM w)(hb:Below w.heap.size w w'):SaidM w':=fun k z hk=>by
 rw [hb.cell (p:=⟨0,k,none⟩) (by exact h.pos)]
 exact h k z hk
theorem SaidM.at {w:World}(h:SaidM w)(k:Nat)(h1:1≤k)(h4:k≤4) :
  w.cell? ⟨0,k * 2,none⟩=some (.int .i64 (leastOf k:Int))∧w.cell? ⟨0,k * 2+1,none⟩=some (.int .i64 (mostOf k:Int)):=by
 have hk:k=1∨k=2∨k=3∨k=4:=by omega
 rcases hk with rfl | rfl | rfl | rfl <;> exact ⟨h _ _ rfl,h _ _ rfl⟩
def HdIs (w w':World)(e:Ending)(r:Nat×Nat×Nat×List Nat):Prop:=∃ u,e=.returned (.tuple #[.int .i64 (r.1:Int),u])∧NoteIs w.heap.size w' u r.2.1 r.2.2.1 r.2.2.2
theorem hd_two {bs:List Nat}(h:18≤bs.length):numB ((bs.drop 16).take 2)=hdSize bs:=by
 have e:(bs.drop 16).take 2=[bs.getD 16 0,bs.getD 17 0]:=by
  apply List.ext_getElem?
  intro i
  match i with
  | 0=>rw [List.getElem?_take_of_lt (by omega),List.getElem?_drop,List.getElem?_eq_getElem (by omega)]; simp [List.getD_eq_getElem?_getD,List.getElem?_eq_getElem (show 16 < bs.length by omega)]
  | 1=>rw [List.getElem?_take_of_lt (by omega),List.getElem?_drop,List.getElem?_eq_getElem (by omega)]; simp [List.getD_eq_getElem?_getD,List.getElem?_eq_getElem (show 17 < bs.length by omega)]
  | i+2=>simp; omega
 rw [e]
 simp [numB,hdSize]
 omega
theorem str_of (w:World)(b o c n:Nat)(xs:List Nat)(hn:xs.length=n)(hlt:∀ x∈xs,x < 256)(hc:∀ i,i < n→w.cell? ⟨b,o+i,none⟩=some (.int .u8 (xs.getD i 0:Int))) :
  (convert 22 9 (.slice (some ⟨b,o,none⟩) n c)).run Tryz.prog w=.ok (.string ⟨(xs.map UInt8.ofNat).toArray⟩) w:=by
 subst hn
 have:=run_convert_bytes_back (P:=Tryz.prog) w 22 9 5 ⟨b,o,none⟩ c (xs.map UInt8.ofNat) Tryz.underlying22 Tryz.underlying5 Tryz.underlying9 (fun j hj=>by
  rw [List.length_map] at hj
  rw [Addr.add_mid,hc j hj]
  have h9:xs.getD j 0=xs[j]:=by rw [List.getD_eq_getElem?_getD,List.getElem?_eq_getElem hj]; rfl
  have h8:=hlt xs[j] (List.getElem_mem hj)
  rw [h9]
  simp
  omega)
 simpa using this
theorem str_eq (xs:List Nat)(h:xs.length=16)(hlt:∀ x∈xs,x < 256):((⟨(xs.map UInt8.ofNat).toArray⟩:ByteArray)=⟨#[255,255,255,255,255,255,255,255,255,255,255,255,255,255,255,255]⟩)↔xs=List.replicate 16 255:=by
 constructor
 ·intro e
  have e2:=congrArg (fun s:ByteArray=>s.data.toList.map UInt8.toNat) e
  simp only [List.map_map] at e2
  have e3:xs.map (UInt8.toNat ∘ UInt8.ofNat)=xs:=by
   have:∀ x∈xs,(UInt8.toNat ∘ UInt8.ofNat) x=id x:=fun x hx=>by have:=hlt x hx; simp; omega
   rw [List.map_congr_left this]; simp
  rw [e3] at e2
  exact e2
 ·intro e
  subst e
  rfl
set_option maxHeartbeats 800000 in
theorem head_short (a:Option Addr)(c n:Nat)(w:World)(h:n < 19) :
  Calls Tryz.prog 23 #[.slice a n c] w fun e w'=>HdIs w w' e (0,0,0,[])∧Below w.heap.size w w':=by
 go_enter Tryz.func23,Tryz.ntmps23
 go_wp2_with fail
 refine bodyPost_ret (v:=.tuple #[.int .i64 0,.agg #[.int .i64 0,.int .i64 0,.slice none 0 0]]) (by simp [results,Tryz.results23,go_sem]) rfl ⟨⟨_,rfl,none,0,rfl,own_nil _ _ _ _⟩,?_⟩
 exact (Below.refl _ _).alloc (Nat.le_refl _) _
theorem below_drew3 {w W:World}{X:Nat}{u0 u1 u2:Value} (h:Below X w W):Below X w (((W.setCell ⟨X,0,none⟩ u0).setCell ⟨X,1,none⟩ u1).setCell ⟨X,2,none⟩ u2).drew :=
 have h9:=((h.setCell (p:=⟨X,0,none⟩) (Nat.le_refl _) u0).setCell (p:=⟨X,1,none⟩) (Nat.le_refl _) u1).setCell (p:=⟨X,2,none⟩) (Nat.le_refl _) u2
 ⟨h9.os,h9.tape,h9.output,h9.size,h9.block⟩
theorem own_set3 {W:World}{B X n:Nat}{v u0 u1 u2:Value}{xs:List Value} (h:W.ownsRow B 5 1 v n xs) (hX:X < B):(((W.setCell ⟨X,0,none⟩ u0).setCell ⟨X,1,none⟩ u1).setCell ⟨X,2,none⟩ u2).drew.ownsRow B 5 1 v n xs :=
 own_later (own_under (own_under (own_under h hX 0 u0) hX 1 u1) hX 2 u2) ⟨rfl,rfl,rfl,Nat.le_refl _,fun _ _=>rfl⟩
set_option maxHeartbeats 4000000 in
theorem head_rest (b o c n:Nat)(bs:List Nat)(w:World)(hn:bs.length=n)(h19:19≤n)(hl:n≤100000)(hcap:n≤c)(h:BRd w (some ⟨b,o,none⟩) bs)(hS:SaidM w) :
  Calls Tryz.prog 23 #[.slice (some ⟨b,o,none⟩) n c] w fun e w'=>HdIs w w' e (headM bs)∧Below w.heap.size w w':=by
 obtain ⟨b',o',e9,hc⟩:=h.1.2 (by omega)
 cases e9
 have HC:Hid (∀ i,i < n→w.cell? ⟨b,o+i,none⟩=some (.int .u8 (bs.getD i 0:Int))):=fun i hi=>hc i (by omega)
 have c18:=HC.out 18 (by omega)
 have zb:=World.block_lt_of_cell? w _ c18
 simp only at zb
 have hlen2:((bs.drop 16).take 2).length=2:=by rw [List.length_take,List.length_drop]; omega
 have hlen1:((bs.drop 18).take 1).length=1:=by rw [List.length_take,List.length_drop]; omega
 have hbA:Below w.heap.size w (w.alloc (.cells #[.int .i64 0,.int .i64 0,.slice none 0 0] 38)):=(Below.refl _ _).alloc (Nat.le_refl _) _
 have hbm:∀ m,Below w.heap.size w ((w.alloc (.cells #[.int .i64 0,.int .i64 0,.slice none 0 0] 38)).drewN m):=fun m=>below_drewN hbA m
 have br2:BRd w (some ⟨b,o+16,none⟩) ((bs.drop 16).take 2):=brd_from h 16 2 (by omega)
 have K1:Hid (∀ m,Calls Tryz.prog 41 #[.slice (some ⟨b,o+16,none⟩) 2 (c - 16)] ((w.alloc (.cells #[.int .i64 0,.int .i64 0,.slice none 0 0] 38)).drewN m) fun e w'=>e=.returned (.int .i64 (hdSize bs:Int))∧w'=((w.alloc (.cells #[.int .i64 0,.int .i64 0,.slice none 0 0] 38)).drewN m)):=fun m=>by
  have h2:=br2.below (hbm m)
  obtain ⟨b2,o2,e2,hc2⟩:=h2.1.2 (by omega)
  cases e2
  have:=mnumof_any b (o+16) 2 (c - 16) ((bs.drop 16).take 2) _ hlen2 (by omega) h2.2 (fun i hi=>hc2 i (by omega))
  rwa [hd_two (by omega)] at this
 have K2:Hid (∀ m,Calls Tryz.prog 24 #[.int .i64 1,.int .i64 2,.slice (some ⟨b,o+16,none⟩) 2 (c - 16)] ((w.alloc (.cells #[.int .i64 0,.int .i64 0,.slice none 0 0] 38)).drewN m) fun e w2=>∃ a9 c9,e=.returned (.agg #[.int .i64 1,.int .i64 2,.slice a9 2 c9])∧Hid (w2.ownsRow (w.heap.size+1) 5 1 (.slice a9 2 c9) 2 (bcells ((bs.drop 16).take 2)))∧Hid (Below w.heap.size w w2)∧Hid (NtBox w2 w.heap.size)):=fun m=>by
  have hsz:((w.alloc (.cells #[.int .i64 0,.int .i64 0,.slice none 0 0] 38)).drewN m).heap.size=w.heap.size+1:=by show (w.alloc _).heap.size=_; simp
  refine (noteof_box 1 2 (some ⟨b,o+16,none⟩) (c - 16) 2 ((bs.drop 16).take 2) _ w.heap.size hlen2 (by omega) (br2.below (hbm m)) ((NtBox.made w).below (B:=w.heap.size+1) ⟨rfl,rfl,rfl,Nat.le_refl _,fun _ _=>rfl⟩ (by omega))).mono ?_
  rintro e w2 ⟨a9,c9,rfl,ho,hb3,hx⟩
  rw [hsz] at ho hb3
  exact ⟨a9,c9,rfl,ho,(hbm m).trans (hb3.out.mono (by omega)),hx⟩
 have hk:bs.getD 18 0 < 256:=getD_lt256 h.2 18
 have hs16:bs.getD 16 0 < 256:=getD_lt256 h.2 16
 have hs17:bs.getD 17 0 < 256:=getD_lt256 h.2 17
 have hsz:hdSize bs < 65536:=by unfold hdSize; omega
 have HH:=hide h
 have HS:=hide hS
 have HM1:Hid (bs.take 16≠List.replicate 16 255→headM bs=(0,1,1,[])):=fun hm=>headM_mark (by omega) hm
 have HM2:Hid (bs.take 16=List.replicate 16 255→(hdSize bs < 19∨4096 < hdSize bs)→headM bs=(0,1,2,(bs.drop 16).take 2)):=fun hm h2=>headM_size (by omega) (fun x=>x hm) h2
 have HM3:Hid (bs.take 16=List.replicate 16 255→¬ (hdSize bs < 19∨4096 < hdSize bs)→(bs.getD 18 0 < 1∨4 < bs.getD 18 0)→headM bs=(0,1,3,(bs.drop 18).take 1)):=fun hm h2 h3=>headM_kind (by omega) (fun x=>x hm) h2 h3
 have HM4:Hid (bs.take 16=List.replicate 16 255→¬ (hdSize bs < 19∨4096 < hdSize bs)→¬ (bs.getD 18 0 < 1∨4 < bs.getD 18 0)→(hdSize bs < leastOf (bs.getD 18 0)∨mostOf (bs.getD 18 0) < hdSize bs)→headM bs=(0,1,2,(bs.drop 16).take 2)):=fun hm h2 h3 h4=>headM_said (by omega) (fun x=>x hm) h2 h3 h4
 have HM5:Hid (bs.take 16=List.replicate 16 255→¬ (hdSize bs < 19∨4096 < hdSize bs)→¬ (bs.getD 18 0 < 1∨4 < bs.getD 18 0)→¬ (hdSize bs < leastOf (bs.getD 18 0)∨mostOf (bs.getD 18 0) < hdSize bs)→headM bs=(hdSize bs,0,0,[])):=fun hm h2 h3 h4=>headM_good (by omega) (fun x=>x hm) h2 h3 h4
 have HD1:Hid ((bs.drop 18).take 1=[bs.getD 18 0]):=by
  show _=_
  apply List.ext_getElem?
  intro i
  match i with
  | 0=>rw [List.getElem?_take_of_lt (by omega),List.getElem?_drop,List.getElem?_eq_getElem (by omega)]; simp [List.getD_eq_getElem?_getD,List.getElem?_eq_getElem (show 18 < bs.length by omega)]
  | i+1=>simp; omega
 have HSE:=hide (str_eq (bs.take 16) (by rw [List.length_take]; omega) (take_lt h.2 16))
 have HCV:Hid (∀ W,Below w.heap.size w W→(convert 22 9 (.slice (some ⟨b,o,none⟩) 16 c)).run Tryz.prog W=.ok (.string ⟨((bs.take 16).map UInt8.ofNat).toArray⟩) W):=fun W hW=>by
  have h2:=brd_take (h.below hW) 16
  obtain ⟨b2,o2,e2,hc2⟩:=h2.1.2 (by rw [List.length_take]; omega)
  cases e2
  exact str_of W b o c 16 (bs.take 16) (by rw [List.length_take]; omega) h2.2 (fun i hi=>hc2 i (by rw [List.length_take]; omega))
 have HB2:=hide br2
 have HL1:=hide hlen1
 have HL2:=hide hlen2
 have HN:=hide hn
 clear hc h hS hlen1 hlen2 hs16 hs17 br2 hbm hbA hn
 generalize hkd:bs.getD 18 0=kd at *
 generalize hszd:hdSize bs=sz at *
 clear hkd hszd
 go_enter Tryz.func23,Tryz.ntmps23
 go_wp2_with fail
 go_quiet ((go_at_call 41; exact Calls.quiet_of_same (K1.out _)))
 go_wp2_with fail
 refine (K2.out _).mono ?_
 rintro e w2 ⟨a9,c9,rfl,HO,HB,HX⟩
 have HBX:Hid (NtBox (w2.alloc (.cells #[.int .i64 1,.int .i64 2,.slice a9 2 c9] 38)) w.heap.size):=HX.out.below ((Below.refl w2.heap.size _).alloc (Nat.le_refl _) _) HX.out.1
 have hlt2:w.heap.size < w2.heap.size:=HX.out.1
 have hcv:=HCV.out (w2.alloc (.cells #[.int .i64 1,.int .i64 2,.slice a9 2 c9] 38)) (HB.out.trans (((Below.refl _ _).alloc (Nat.le_refl _) _).mono HB.out.size))
 generalize (⟨((bs.take 16).map UInt8.ofNat).toArray⟩:ByteArray)=S at *
 by_cases hq:S=⟨#[255,255,255,255,255,255,255,255,255,255,255,255,255,255,255,255]⟩
 ·have hmk:=hide (HSE.out.1 hq)
  clear HM1 HSE
  subst hq
  have hsd:SaidM (w2.alloc (.cells #[.int .i64 1,.int .i64 2,.slice a9 2 c9] 38)):=HS.out.below (HB.out.trans (((Below.refl _ _).alloc (Nat.le_refl _) _).mono HB.out.size))
  have cW:(w2.alloc (.cells #[.int .i64 1,.int .i64 2,.slice a9 2 c9] 38)).cell? ⟨b,o+18,none⟩=some (.int .u8 (kd:Int)):=by
   rw [(HB.out.trans (((Below.refl _ _).alloc (Nat.le_refl _) _).mono HB.out.size)).cell (p:=⟨b,o+18,none⟩) zb]; exact c18
  have HSD:=hide hsd
  have HBW:Hid (Below w.heap.size w (w2.alloc (.cells #[.int .i64 1,.int .i64 2,.slice a9 2 c9] 38))):=HB.out.trans (((Below.refl _ _).alloc (Nat.le_refl _) _).mono HB.out.size)
  obtain ⟨hz,r0,r1,r2,f0,f1,f2⟩:=HBX.out
  have x0:(w2.alloc (.cells #[.int .i64 1,.int .i64 2,.slice a9 2 c9] 38)).cell? ⟨w2.heap.size,0,none⟩=some (.int .i64 1):=by simp [go_sem]
  have x1:(w2.alloc (.cells #[.int .i64 1,.int .i64 2,.slice a9 2 c9] 38)).cell? ⟨w2.heap.size,1,none⟩=some (.int .i64 2):=by simp [go_sem]
  have x2:(w2.alloc (.cells #[.int .i64 1,.int .i64 2,.slice a9 2 c9] 38)).cell? ⟨w2.heap.size,2,none⟩=some (.slice a9 2 c9):=by simp [go_sem]
  have hz2:w2.heap.size < (w2.alloc (.cells #[.int .i64 1,.int .i64 2,.slice a9 2 c9] 38)).heap.size:=by simp
  have HOW:Hid ((w2.alloc (.cells #[.int .i64 1,.int .i64 2,.slice a9 2 c9] 38)).ownsRow (w.heap.size+1) 5 1 (.slice a9 2 c9) 2 (bcells ((bs.drop 16).take 2))):=HO.out.alloc _
  have HOB:=hide (own_block HOW.out)
  clear hsd
  by_cases h2:sz < 19∨4096 < sz
  ·have HR:=hide (HM2.out hmk.out h2)
   clear HM2 HM3 HM4 HM5
   have HE:Hid (∀ W u,Below w.heap.size w W→W.ownsRow (w.heap.size+1) 5 1 (.slice a9 2 c9) 2 (bcells ((bs.drop 16).take 2))→u=.agg #[.int .i64 1,.int .i64 2,.slice a9 2 c9]→HdIs w W (.returned (.tuple #[.int .i64 0,u])) (headM bs)):=fun W u hW ho hu=>by
    rw [HR.out,hu]
    refine ⟨_,rfl,a9,c9,?_,?_⟩
    ·simp only [HL2.out]; rfl
    ·simp only [HL2.out]; exact own_low ho (by omega)
   have h2b:((sz:Int) < 19)∨(¬ ((sz:Int) < 19)∧(4096 < (sz:Int))):=by omega
   clear h2
   rcases h2b with h2 | ⟨h2,h2'⟩
   ·go_wp2_with fail
    generalize (w2.alloc (.cells #[.int .i64 1,.int .i64 2,.slice a9 2 c9] 38))=W at *
    go_region
    go_wp2_with fail
    refine bodyPost_ret (v:=.tuple #[.int .i64 0,.agg #[.int .i64 1,.int .i64 2,.slice a9 2 c9]]) (by simp [results,Tryz.results23,go_sem,r0,r1,r2]) rfl ⟨HE.out _ _ ?_ ?_ rfl,?_⟩
    ·exact below_drew3 HBW.out
    ·exact own_set3 HOW.out (by omega)
    ·exact below_drew3 HBW.out
   ·go_wp2_with fail
    generalize (w2.alloc (.cells #[.int .i64 1,.int .i64 2,.slice a9 2 c9] 38))=W at *
    go_region
    go_wp2_with fail
    refine bodyPost_ret (v:=.tuple #[.int .i64 0,.agg #[.int .i64 1,.int .i64 2,.slice a9 2 c9]]) (by simp [results,Tryz.results23,go_sem,r0,r1,r2]) rfl ⟨HE.out _ _ ?_ ?_ rfl,?_⟩
    ·exact below_drew3 HBW.out
    ·exact own_set3 HOW.out (by omega)
    ·exact below_drew3 HBW.out
  ·have hn1:¬ ((sz:Int) < 19):=by omega
   have hn2:¬ ((4096:Int) < (sz:Int)):=by omega
   by_cases h3:kd < 1∨4 < kd
   ·have HR:=hide (HM3.out hmk.out h2 h3)
    rw [HD1.out] at HR
    clear HM2 HM3 HM4 HM5 h2
    have HK:Hid (Calls Tryz.prog 24 #[.int .i64 1,.int .i64 3,.slice (some ⟨w2.heap.size+1,0,none⟩) 1 1] ((w2.alloc (.cells #[.int .i64 1,.int .i64 2,.slice a9 2 c9] 38)).alloc (.cells #[.int .u8 (kd:Int)] 5)) fun e w3=>∃ a8 c8,e=.returned (.agg #[.int .i64 1,.int .i64 3,.slice a8 1 c8])∧Hid (w3.ownsRow (w.heap.size+1) 5 1 (.slice a8 1 c8) 1 (bcells [kd]))∧Hid (Below w.heap.size w w3)∧Hid (NtBox w3 w.heap.size)):=by
     have hba:=(Below.refl (w2.alloc (.cells #[.int .i64 1,.int .i64 2,.slice a9 2 c9] 38)).heap.size (w2.alloc (.cells #[.int .i64 1,.int .i64 2,.slice a9 2 c9] 38))).alloc (Nat.le_refl _) (.cells #[.int .u8 (kd:Int)] 5)
     refine (noteof_box 1 3 (some ⟨w2.heap.size+1,0,none⟩) 1 1 [kd] _ w.heap.size rfl (by omega) ?_ (HBX.out.below hba hz)).mono ?_
     ·refine ⟨⟨by simp [maxLen],fun _=>⟨_,0,rfl,fun i hi=>?_⟩⟩,by simp; omega⟩
      have:i=0:=by simp at hi; omega
      subst this
      simp [go_sem]
     ·rintro e w3 ⟨a8,c8,rfl,ho,hb,hx⟩
      refine ⟨a8,c8,rfl,own_low ho.out (by simp; omega),?_,hx⟩
      exact (HBW.out.trans (hba.mono (by omega))).trans (hb.out.mono (by simp; omega))
    clear HBX HSD HOW HOB
    have h3b:((kd:Int) < 1)∨(¬ ((kd:Int) < 1)∧(4 < (kd:Int))):=by omega
    clear h3
    rcases h3b with h3 | ⟨h3,h3'⟩
    ·go_wp2_with fail
     with_reducible refine HK.out.mono ?_
     rintro e w3 ⟨a8,c8,rfl,HO3,HB3,HX3⟩
     obtain ⟨hz,r0,r1,r2,f0,f1,f2⟩:=HX3.out
     go_wp2_with fail
     refine bodyPost_ret (v:=.tuple #[.int .i64 0,.agg #[.int .i64 1,.int .i64 3,.slice a8 1 c8]]) (by simp [results,Tryz.results23,go_sem,r0,r1,r2]) rfl ⟨?_,?_⟩
     ·rw [HR.out]
      refine ⟨_,rfl,a8,c8,rfl,own_low (own_under (own_under (own_under HO3.out ?_ _ _) ?_ _ _) ?_ _ _) ?_⟩ <;> omega
     ·exact ((HB3.out.setCell (Nat.le_refl _) _).setCell (Nat.le_refl _) _).setCell (Nat.le_refl _) _
    ·go_wp2_with fail
     with_reducible refine HK.out.mono ?_
     rintro e w3 ⟨a8,c8,rfl,HO3,HB3,HX3⟩
     obtain ⟨hz,r0,r1,r2,f0,f1,f2⟩:=HX3.out
     go_wp2_with fail
     refine bodyPost_ret (v:=.tuple #[.int .i64 0,.agg #[.int .i64 1,.int .i64 3,.slice a8 1 c8]]) (by simp [results,Tryz.results23,go_sem,r0,r1,r2]) rfl ⟨?_,?_⟩
     ·rw [HR.out]
      refine ⟨_,rfl,a8,c8,rfl,own_low (own_under (own_under (own_under HO3.out ?_ _ _) ?_ _ _) ?_ _ _) ?_⟩ <;> omega
     ·exact ((HB3.out.setCell (Nat.le_refl _) _).setCell (Nat.le_refl _) _).setCell (Nat.le_refl _) _
   ·have k1:1≤kd:=by omega
    have k4:kd≤4:=by omega
    obtain ⟨s0,s1⟩:=HSD.out.at kd k1 k4
    have zg:=HSD.out.pos
    have hle:leastOf kd≤29:=by unfold leastOf; repeat (first | omega | split)
    have hmo:mostOf kd≤4096:=by unfold mostOf; repeat (first | omega | split)
    have kd0:(0:Int)≤(kd:Int):=Int.natCast_nonneg _
    have kd5:(kd:Int) < 5:=by omega
    have kn1:¬ ((kd:Int) < 1):=by omega
    have kn4:¬ ((4:Int) < (kd:Int)):=by omega
    by_cases h4:sz < leastOf kd∨mostOf kd < sz
    ·have HR:=hide (HM4.out hmk.out h2 h3 h4)
     clear HM2 HM3 HM4 HM5 h2 h3
     have HE:Hid (∀ W u,Below w.heap.size w W→W.ownsRow (w.heap.size+1) 5 1 (.slice a9 2 c9) 2 (bcells ((bs.drop 16).take 2))→u=.agg #[.int .i64 1,.int .i64 2,.slice a9 2 c9]→HdIs w W (.returned (.tuple #[.int .i64 0,u])) (headM bs)):=fun W u hW ho hu=>by
      rw [HR.out,hu]
      refine ⟨_,rfl,a9,c9,?_,?_⟩
      ·simp only [HL2.out]; rfl
      ·simp only [HL2.out]; exact own_low ho (by omega)
     generalize leastOf kd=le at *
     generalize mostOf kd=mo at *
     have h4b:((sz:Int) < (le:Int))∨(¬ ((sz:Int) < (le:Int))∧((mo:Int) < (sz:Int))):=by omega
     clear h4
     rcases h4b with h4 | ⟨h4,h4'⟩
     ·go_wp2_with fail
      generalize (w2.alloc (.cells #[.int .i64 1,.int .i64 2,.slice a9 2 c9] 38))=W at *
      go_region
      go_wp2_with fail
      refine bodyPost_ret (v:=.tuple #[.int .i64 0,.agg #[.int .i64 1,.int .i64 2,.slice a9 2 c9]]) (by simp [results,Tryz.results23,go_sem,r0,r1,r2]) rfl ⟨HE.out _ _ ?_ ?_ rfl,?_⟩
      ·exact below_drew3 HBW.out
      ·exact own_set3 HOW.out (by omega)
      ·exact below_drew3 HBW.out
     ·go_wp2_with fail
      generalize (w2.alloc (.cells #[.int .i64 1,.int .i64 2,.slice a9 2 c9] 38))=W at *
      go_region
      go_wp2_with fail
      refine bodyPost_ret (v:=.tuple #[.int .i64 0,.agg #[.int .i64 1,.int .i64 2,.slice a9 2 c9]]) (by simp [results,Tryz.results23,go_sem,r0,r1,r2]) rfl ⟨HE.out _ _ ?_ ?_ rfl,?_⟩
      ·exact below_drew3 HBW.out
      ·exact own_set3 HOW.out (by omega)
      ·exact below_drew3 HBW.out
    ·have HR:=hide (HM5.out hmk.out h2 h3 h4)
     clear HM2 HM3 HM4 HM5 h2 h3
     have h4a:¬ ((sz:Int) < (leastOf kd:Int)):=by omega
     have h4c:¬ ((mostOf kd:Int) < (sz:Int)):=by omega
     generalize leastOf kd=le at *
     generalize mostOf kd=mo at *
     clear h4 r0 r1 r2 f0 f1 f2 hz x0 x1 x2
     obtain ⟨hz,r0,r1,r2,f0,f1,f2⟩:=HX.out
     go_wp2_with fail
     refine bodyPost_ret (v:=.tuple #[.int .i64 (sz:Int),.agg #[.int .i64 0,.int .i64 0,.slice none 0 0]]) (by simp [results,Tryz.results23,go_sem,r0,r1,r2,hz]) rfl ⟨?_,?_⟩
     ·rw [HR.out]; exact ⟨_,rfl,none,0,rfl,own_nil _ _ _ _⟩
     ·exact (((HB.out.setCell (Nat.le_refl _) _).setCell (Nat.le_refl _) _).setCell (Nat.le_refl _) _).alloc (by simp; omega) _
 ·have hmk:=hide (HM1.out (fun h9=>hq (HSE.out.2 h9)))
  have hq2:(S.toList == [255,255,255,255,255,255,255,255,255,255,255,255,255,255,255,255])=false:=by
   rw [ByteArray.toList_eq,Bool.eq_false_iff]
   intro h9
   refine hq ?_
   obtain ⟨⟨l⟩⟩:=S
   rw [show l=[255,255,255,255,255,255,255,255,255,255,255,255,255,255,255,255] from by simpa using h9]
  clear hq HSE HM1 HM2 HM3 HM4 HM5
  go_wp2_with fail
  refine (noteof_box 1 1 none 0 0 [] _ w.heap.size rfl (by omega) (brd_none _ _) HBX.out).mono ?_
  rintro e w3 ⟨a8,c8,rfl,HO3,HB3,HX3⟩
  obtain ⟨hz,r0,r1,r2,f0,f1,f2⟩:=HX3.out
  go_wp2_with fail
  refine bodyPost_ret (v:=.tuple #[.int .i64 0,.agg #[.int .i64 1,.int .i64 1,.slice a8 0 c8]]) (by simp [results,Tryz.results23,go_sem,r0,r1,r2]) rfl ⟨?_,?_⟩
  ·rw [hmk.out]
   refine ⟨_,rfl,a8,c8,rfl,own_low (own_under (own_under (own_under HO3.out ?_ _ _) ?_ _ _) ?_ _ _) ?_⟩ <;> simp <;> omega
  ·have h9:Below w.heap.size w w3:=HB.out.trans ((((Below.refl w2.heap.size _).alloc (Nat.le_refl _) _).mono HB.out.size).trans (HB3.out.mono (by simp; omega)))
   exact ((h9.setCell (Nat.le_refl _) _).setCell (Nat.le_refl _) _).setCell (Nat.le_refl _) _
theorem head_any (a:Option Addr)(c:Nat)(bs:List Nat)(w:World)(hl:bs.length≤100000)(hcap:bs.length≤c)(h:BRd w a bs)(hS:SaidM w) :
  Calls Tryz.prog 23 #[.slice a bs.length c] w fun e w'=>HdIs w w' e (headM bs)∧Below w.heap.size w w':=by
 by_cases h1:bs.length < 19
 ·rw [headM_short h1]; exact head_short a c _ w h1
 ·obtain ⟨b,o,rfl,_⟩:=h.1.2 (by omega)
  exact head_rest b o c _ bs w rfl (by omega) hl hcap h hS
def msgC (k c s:Int)(v:Value):Array Value:=#[.int .i64 k,.int .i64 0,.int .i64 0,.int .u32 0,.bool false,.int .i64 0,.bool false,.bool false,.int .i64 0,.bool false,.bool false,.bool false,.int .i64 0,.slice none 0 0,.int .i64 0,.slice none 0 0,.int .u32 0,.int .i64 0,.int .i64 0,.slice none 0 0,.slice none 0 0,.slice none 0 0,.int .i64 c,.int .i64 s,v]
set_option maxHeartbeats 1600000 in
theorem bodyof_alive (w:World):Calls Tryz.prog 38 #[.agg (msgC 4 0 0 (.slice none 0 0))] w fun e w'=>e=.returned (.tuple #[.slice none 0 0,.bool true])∧Below w.heap.size w w':=by
 unfold msgC
 go_enter Tryz.func38,Tryz.ntmps38
 go_wp2_with fail
 go_quiet (fail)
 go_wp2
 go_ret2
 exact ⟨rfl,below_drewN ((Below.refl _ _).alloc (Nat.le_refl _) _) _⟩
def tk (ops:Array Oper)(m:Array Bool)(k:Nat):Bool:=Region.free .any ops m k&&(Region.ready .any ops m).contains k
theorem tk1 {ops:Array Oper}{m:Array Bool}{k:Nat}(h:tk ops m k=true):Region.free .any ops m k=true:=(Bool.and_eq_true_iff.1 h).1
theorem tk2 {ops:Array Oper}{m:Array Bool}{k:Nat}(h:tk ops m k=true):(Region.ready .any ops m).contains k=true:=(Bool.and_eq_true_iff.1 h).2
def opk (ops:Array Oper)(i:Nat)(d:Option Tmp)(o:Op):Prop:=∃ ty po af,ops[i]?=some {dst:=d,op:=o,type:=ty,pos:=po,after:=af,guard:=none}
theorem opi {ops:Array Oper}{i:Nat}{d:Option Tmp}{o:Op}{ty:TypeId}{po:String}{af:Array Edge}(h:ops[i]?=some {dst:=d,op:=o,type:=ty,pos:=po,after:=af,guard:=none}):opk ops i d o:=⟨ty,po,af,h⟩
structure Fr (L:List Nat) (b a:Act):Prop where
 defers:a.defers=b.defers
 size:a.tmps.size=b.tmps.size
 out:∀ t,t ∉ L→a.tmps[t]?=b.tmps[t]?
theorem Fr.refl (L:List Nat)(b:Act):Fr L b b:=⟨rfl,rfl,fun _ _=>rfl⟩
theorem slot_put {a:Act}{s t:Nat} (v:Value) (h:s≠t):(a.put (some s) v).tmps[t]?=a.tmps[t]?:=by
 simp [Act.put,Array.getElem?_setIfInBounds_ne h]
theorem slot_same {a:Act}{t:Nat} (v:Value) (h:t < a.tmps.size):(a.put (some t) v).tmps[t]?=some v:=by
 simp [Act.put,h]
theorem slot_eval {a:Act}{t:Nat}{v:Value} (h:a.tmps[t]?=some v):a.eval (.tmp t)=v:=by
 show a.tmps.getD t undef=v
 rw [Array.getD_eq_getD_getElem?,h]
 rfl
theorem Fr.put {L:List Nat}{b a:Act} (h:Fr L b a) {t:Nat} (ht:t∈L) (v:Value):Fr L b (a.put (some t) v) :=
 ⟨h.defers,by simp [Act.put,h.size],fun s hs=>by rw [slot_put v (by rintro rfl; exact hs ht)]; exact h.out s hs⟩
theorem Fr.slot {L:List Nat}{b a:Act} (h:Fr L b a) {t:Nat}{v:Value} (ht:t ∉ L) (hv:b.tmps[t]?=some v):a.tmps[t]?=some v:=by
 rw [h.out t ht,hv]
theorem Fr.eq {b a:Act} : ∀ {l:List (Nat×Value)}{c:Act},c.defers=b.defers→a.defers=b.defers→a.tmps.size=c.tmps.size→(∀ t,t ∉ l.map Prod.fst→a.tmps[t]?=c.tmps[t]?)→(∀ p∈l,a.tmps[p.1]?=some p.2)→a=l.foldl (fun x p=>x.put (some p.1) p.2) c
 | [],c,h0,h1,h2,h3,_=>by
  obtain ⟨at1,ad⟩:=a
  obtain ⟨ct,cd⟩:=c
  simp only at h0 h1 h2 h3
  subst h0 h1
  have:at1=ct:=Array.ext_getElem? fun t=>h3 t (by simp)
  rw [this]
  rfl
 | p :: r,c,h0,h1,h2,h3,h4=>by
  refine Fr.eq (l:=r) (c:=c.put (some p.1) p.2) h0 h1 (by rw [h2]; simp [Act.put]) (fun t ht=>?_) (fun q hq=>h4 q (List.mem_cons_of_mem _ hq))
  by_cases e:p.1=t
  ·subst e
   have h5:=h4 p List.mem_cons_self
   rw [h5,slot_same]
   rw [← h2]
   exact (Array.getElem?_eq_some_iff.1 h5).1
  ·rw [slot_put _ e]
   exact h3 t (by simp only [List.map_cons,List.mem_cons,not_or]; exact ⟨fun h=>e h.symm,ht⟩)
section
variable {P:Program}{ops:Array Oper}{Q:Exit→Act→World→Prop}
theorem op_plain {i:Nat}{o:Oper}{K:Act→World→Prop}{a:Act}{w:World} (hi:ops[i]?=some o) (hg:o.guard=none) (h:o.wp P a w K Q):wpOp P ops Q i K a w:=by
 unfold wpOp
 simp only [hi]
 rw [if_pos (by unfold Region.wanted; rw [hg])]
 exact .inl h
theorem op_weak {i:Nat}{K K':Act→World→Prop}{a:Act}{w:World} (h:wpOp P ops Q i K a w) (hk:∀ a w,K a w→K' a w):wpOp P ops Q i K' a w:=wpOp_mono hk h
theorem take_slot {S:World→Prop}{md:Region.Mode}{i d:Nat}{oi:Oper}{v:Value}{fuel:Nat}{listed:Array Bool}{a:Act}{w:World} (hi:ops[i]?=some oi) (hd:oi.dst=some d) (hg:oi.guard=none)
  (hs:Region.noSelect ops=true) (hf:Region.free md ops listed i=true) (hr:(Region.ready md ops listed).contains i=true)
  (hQ:∀ c a a' w,Q (.panic c) a w→Q (.panic c) a' w) (hy:∀ w,S w→(execOp a.eval oi).run P w=.ok (.value v) w) (hS:S w)
  (h:wpAnyH P md ops Q S fuel (listed.setIfInBounds i true) (a.put (some d) v) w):wpAnyH P md ops Q S (fuel+1) listed a w :=
 wpAnyH_take hi hs hf hr (fun _ _ _ h=>hQ _ _ _ _ h) (.inl ⟨by unfold Region.wanted; rw [hg],hy⟩) hS (by rw [hd]; exact h)
theorem op_move (a:Act)(w:World)(o:Oper)(x:Operand)(v:Value)(ho:o.op=.move x)(hx:a.eval x=v):(execOp a.eval o).run P w=.ok (.value v) w:=by
 unfold execOp
 rw [ho]
 simp only [hx]
 rfl
end
def ff16:List Nat:=List.replicate 16 255
def ffC:Array Value:=#[.int .u8 255,.int .u8 255,.int .u8 255,.int .u8 255,.int .u8 255,.int .u8 255,.int .u8 255,.int .u8 255,.int .u8 255,.int .u8 255,.int .u8 255,.int .u8 255,.int .u8 255,.int .u8 255,.int .u8 255,.int .u8 255]
theorem cell_freeze (w:World)(p:Addr)(n:Nat)(x:Addr)(g:Nat)(C:Array Value)(t:TypeId)(f:Nat×Nat)(hp:p.block=g)(hg:w.heap[g]?=some (.cells C t f)):(w.freeze p n).cell? x=w.cell? x:=by
 unfold World.freeze
 split
 ·rfl
 ·unfold World.cell?
  simp only
  by_cases e:p.block=x.block
  ·rw [← e,hp,Array.getElem?_modify,if_pos rfl,hg]
   simp
  ·rw [Array.getElem?_modify,if_neg e]
theorem run_mark (w:World)(g:Nat)(C:Array Value)(n c:Nat)(hg:w.heap[g]?=some (.cells C 5 (0,0))):(convert 22 22 (.slice (some ⟨g,0,none⟩) n c)).run Tryz.prog w=.ok (.slice (some ⟨g,0,none⟩) n c) (w.freeze ⟨g,C.size,none⟩ 1):=by
 have hsh:w.shape? g=some (5,C.size):=by unfold World.shape?; rw [hg]
 simp [convert,run_underlying Tryz.underlying22,run_underlying Tryz.underlying5,markStringish,hsh]
theorem brd_cells {w w':World}{a:Option Addr}{bs:List Nat} (h:BRd w a bs) (hc:∀ x,w'.cell? x=w.cell? x):BRd w' a bs:=by
 refine ⟨⟨h.1.1,fun hp=>?_⟩,h.2⟩
 obtain ⟨b,o,e,h2⟩:=h.1.2 hp
 exact ⟨b,o,e,fun i hi=>by rw [hc]; exact h2 i hi⟩
structure JE (Ls:List Nat) (b0:Act) (w0:World) (n k:Nat) (p q:Nat) (a:Act) (W:World):Prop where
 fr:Fr Ls b0 a
 bel:Below w0.heap.size w0 W
 p1:p=1→∃ g,a.tmps[20]?=some (.slice (some ⟨g,0,none⟩) 16 16)∧w0.heap.size≤g∧W.heap[g]?=some (.cells ffC 5 (0,0))
 p2:p=2→∃ x c,a.tmps[21]?=some (.slice x 16 c)∧BRd W x ff16
 q1:1≤q→∃ x c,a.tmps[23]?=some (.slice x 2 c)∧BRd W x [n / 256,n % 256]
 q2:2≤q→∃ x c,a.tmps[26]?=some (.slice x 1 c)∧BRd W x [k]
section
variable {Ls:List Nat}{b0 a:Act}{w0 W W':World}{n k p q:Nat}
theorem JE.later (h:JE Ls b0 w0 n k p q a W)(hb:Below W.heap.size W W'):JE Ls b0 w0 n k p q a W' :=
 ⟨h.fr,h.bel.trans (hb.mono h.bel.size),fun e=>by
  obtain ⟨g,h1,h2,h3⟩:=h.p1 e
  exact ⟨g,h1,h2,by rw [hb.block g (Array.getElem?_eq_some_iff.1 h3).1]; exact h3⟩,
 fun e=>by obtain ⟨x,c,h1,h2⟩:=h.p2 e; exact ⟨x,c,h1,h2.below hb⟩,
 fun e=>by obtain ⟨x,c,h1,h2⟩:=h.q1 e; exact ⟨x,c,h1,h2.below hb⟩,
 fun e=>by obtain ⟨x,c,h1,h2⟩:=h.q2 e; exact ⟨x,c,h1,h2.below hb⟩⟩
end
section
variable {a:Act}{w:World}{dst:Option Tmp}{ty:TypeId}{pos:String}{after:Array Edge}{K:Act→World→Prop}{Q:Exit→Act→World→Prop}
theorem run_number (ρ:Operand→Value)(x y:Operand)(u v:Value)(hf:ρ (.func 40)=.func (.func 40) #[] #[])(hx:ρ x=u)(hy:ρ y=v) :
  (execOp ρ { dst:=dst,op:=.call { callee:=.value (.func 40),args:=#[x,y],argTypes:=#[3,3] },type:=ty,pos:=pos,after:=after,guard:=none }).run Tryz.prog w=.ok (.enter 40 #[u,v]) w:=by
 unfold execOp
 simp [resolve,invoke,hf,hx,hy,go_sem]
theorem call_number (x y:Operand)(u v:Value)(hx:a.eval x=u)(hy:a.eval y=v)(h:Calls Tryz.prog 40 #[u,v] w fun e w'=>∃ r,e=.returned r∧K (a.put dst r) w') :
  Oper.wp Tryz.prog { dst:=dst,op:=.call { callee:=.value (.func 40),args:=#[x,y],argTypes:=#[3,3] },type:=ty,pos:=pos,after:=after,guard:=none } a w K Q:=by
 unfold Oper.wp
 rw [run_number a.eval x y u v rfl hx hy]
 refine Calls.mono h ?_
 rintro _ w' ⟨r,rfl,hk⟩
 exact hk
theorem run_obo (ρ:Operand→Value)(x:Operand)(u:Value)(hf:ρ (.func 39)=.func (.func 39) #[] #[])(hx:ρ x=u) :
  (execOp ρ { dst:=dst,op:=.call { callee:=.value (.func 39),args:=#[x],argTypes:=#[89] },type:=ty,pos:=pos,after:=after,guard:=none }).run Tryz.prog w=.ok (.enter 39 #[u]) w:=by
 unfold execOp
 simp [resolve,invoke,hf,hx,go_sem]
theorem call_obo (x:Operand)(u:Value)(hx:a.eval x=u)(h:Calls Tryz.prog 39 #[u] w fun e w'=>∃ r,e=.returned r∧K (a.put dst r) w') :
  Oper.wp Tryz.prog { dst:=dst,op:=.call { callee:=.value (.func 39),args:=#[x],argTypes:=#[89] },type:=ty,pos:=pos,after:=after,guard:=none } a w K Q:=by
 unfold Oper.wp
 rw [run_obo a.eval x u rfl hx]
 refine Calls.mono h ?_
 rintro _ w' ⟨r,rfl,hk⟩
 exact hk
theorem run_ff:(execOp a.eval { dst:=dst,op:=.buildSlice 22 16 #[(0,.const (.int .u8 255)),(1,.const (.int .u8 255)),(2,.const (.int .u8 255)),(3,.const (.int .u8 255)),(4,.const (.int .u8 255)),(5,.const (.int .u8 255)),(6,.const (.int .u8 255)),(7,.const (.int .u8 255)),(8,.const (.int .u8 255)),(9,.const (.int .u8 255)),(10,.const (.int .u8 255)),(11,.const (.int .u8 255)),(12,.const (.int .u8 255)),(13,.const (.int .u8 255)),(14,.const (.int .u8 255)),(15,.const (.int .u8 255))],type:=ty,pos:=pos,after:=after,guard:=none }).run Tryz.prog w=.ok (.value (.slice (some ⟨w.heap.size,0,none⟩) 16 16)) (w.alloc (.cells ffC 5)):=by
 unfold execOp
 simp [go_sem,ffC]
theorem run_four (ρ:Operand→Value)(x0 x1 x2 x3:Operand)(a0 a1 a2 a3:Option Addr)(n0 n1 n2 n3 c0 c1 c2 c3:Nat)(h0:ρ x0=.slice a0 n0 c0)(h1:ρ x1=.slice a1 n1 c1)(h2:ρ x2=.slice a2 n2 c2)(h3:ρ x3=.slice a3 n3 c3):(execOp ρ { dst:=dst,op:=.buildSlice 89 4 #[(0,x0),(1,x1),(2,x2),(3,x3)],type:=ty,pos:=pos,after:=after,guard:=none }).run Tryz.prog w=.ok (.value (.slice (some ⟨w.heap.size,0,none⟩) 4 4)) (w.alloc (.cells #[.slice a0 n0 c0,.slice a1 n1 c1,.slice a2 n2 c2,.slice a3 n3 c3] 22)):=by
 unfold execOp
 simp [go_sem,h0,h1,h2,h3]
theorem wp_of_run' {o:Oper}{v:Value}{w':World} (hr:(execOp a.eval o).run Tryz.prog w=.ok (.value v) w') (h:K (a.put o.dst v) w'):Oper.wp Tryz.prog o a w K Q:=by
 unfold Oper.wp
 rw [hr]
 exact h
end
def BoxC (w:World)(H:Nat)(c:Cp):Prop:=w.cell? ⟨H,0,none⟩=some (.bool c.four)∧w.cell? ⟨H,1,none⟩=some (.int .i64 c.as4)∧w.cell? ⟨H,2,none⟩=some (.bool c.gr)∧w.cell? ⟨H,3,none⟩=some (.bool c.rs)∧w.cell? ⟨H,4,none⟩=some (.int .i64 c.tm)∧w.cell? ⟨H,5,none⟩=some (.bool c.fam)∧w.cell? ⟨H,6,none⟩=some (.bool c.fwd)∧w.cell? ⟨H,7,none⟩=some (.bool c.ll)∧w.cell? ⟨H,8,none⟩=some (.int .i64 c.lt)
theorem BoxC.block {w w':World}{H:Nat}{c:Cp} (h:BoxC w H c) (hb:w'.heap[H]?=w.heap[H]?):BoxC w' H c:=by
 have k:∀ j,w'.cell? ⟨H,j,none⟩=w.cell? ⟨H,j,none⟩:=fun j=>World.cell?_of_block hb
 unfold BoxC at *
 simp only [k]
 exact h
theorem BoxC.size {w:World}{H:Nat}{c:Cp} (h:BoxC w H c):H < w.heap.size:=by
 have:=World.block_lt_of_cell? w _ h.1
 simpa using this
theorem BoxC.new (w:World)(c:Cp):BoxC (w.alloc (.cells (capC c) 26)) w.heap.size c:=by
 unfold BoxC capC
 refine ⟨?_,?_,?_,?_,?_,?_,?_,?_,?_⟩ <;> simp [go_sem]
structure CBox (w:World) (X:Nat) (c:Cp):Prop where
 cells:BoxC w X c
 free:∀ j,w.frozen? ⟨X,j,none⟩=false
theorem CBox.size {w:World}{X:Nat}{c:Cp} (h:CBox w X c):X < w.heap.size:=h.cells.size
theorem CBox.block {w w':World}{X:Nat}{c:Cp} (h:CBox w X c) (hb:w'.heap[X]?=w.heap[X]?):CBox w' X c :=
 ⟨h.cells.block hb,fun j=>by rw [World.frozen?_of_block hb]; exact h.free j⟩
theorem CBox.later {w w':World}{X:Nat}{c:Cp} (h:CBox w X c) (hb:Below w.heap.size w w'):CBox w' X c:=h.block (hb.block X h.size)
def Took (X:Nat)(r:Option Cp)(e:Ending)(w:World):Prop:=match r with
 | none=>e=.returned (.bool false)
 | some c=>e=.returned (.bool true)∧CBox w X c
theorem took_no (X:Nat)(r:Option Cp)(w:World)(h:r=none):Took X r (.returned (.bool false)) w:=by rw [h]; rfl
theorem took_go {X:Nat}{r:Option Cp}{w:World}{c:Cp} (h:r=some c) (hb:CBox w X c):Took X r (.returned (.bool true)) w:=by rw [h]; exact ⟨rfl,hb⟩
theorem box_set (w:World)(X k:Nat)(u:Value)(j:Nat)(v:Value)(hj:w.cell? ⟨X,j,none⟩=some v):(w.setCell ⟨X,k,none⟩ u).cell? ⟨X,j,none⟩=some (if k=j then u else v):=by
 by_cases e:k=j
 ·subst e
  rw [if_pos rfl]
  exact World.cell?_setCell_same _ _ _ hj
 ·rw [if_neg e,World.cell?_setCell_other _ _ _ _ (by intro e9; injection e9 with _ e2 _; exact e e2)]
  exact hj
set_option maxHeartbeats 1600000 in
theorem rfour_any (X:Nat)(c:Cp)(a:Option Addr)(cap:Nat)(bs:List Nat)(w:World)(hx:CBox w X c)(hr:BRd w a bs) :
  Calls Tryz.prog 90 #[.pointer (some ⟨X,0,none⟩),.slice a bs.length cap] w fun e w'=>Took X (readOne 65 bs c) e w'∧Keeps (fun b=>b=X) w w':=by
 have e65:readOne 65 bs c=if bs.length=4∧numB bs≠0 then some (putFour bs c) else none:=by unfold readOne; rw [if_pos rfl]
 by_cases h4:bs.length=4
 ·obtain ⟨b,o,rfl,hc⟩:=hr.1.2 (by omega)
  have HN:=hide (numof_any b o 4 cap bs w h4 (by omega) hr.2 (fun i hi=>hc i (by omega)))
  have hlt:numB bs < 4294967296:=by have:=numB_lt bs hr.2; rw [h4] at this; simpa using this
  have HF:=hide (fun W=>isFour_any (putFour bs c) W)
  have hg:gFour (putFour bs c)=decide (numB bs≠0):=by
   show (if true then decide _ else decide _)=_
   rw [if_pos rfl]
   show decide ((1:Int)≤(numB bs:Int)∧(numB bs:Int)≤4294967295)=_
   rw [Bool.eq_iff_iff,decide_eq_true_iff,decide_eq_true_iff]
   omega
  rw [hg] at HF
  have HE:Hid (readOne 65 bs c=if numB bs≠0 then some (putFour bs c) else none):=by
   show _=_
   rw [e65]
   by_cases h:numB bs≠0
   ·rw [if_pos ⟨h4,h⟩,if_pos h]
   ·rw [if_neg (fun h9=>h h9.2),if_neg h]
  have HX:=hide hx
  have hXs:=hx.size
  obtain ⟨x0,x1,x2,x3,x4,x5,x6,x7,x8⟩:=hx.cells
  have f0:=hx.free 0
  have f1:=hx.free 1
  generalize readOne 65 bs c=ro at *
  have HB:Hid (∀ W,Below ((w.setCell ⟨X,0,none⟩ (.bool true)).setCell ⟨X,1,none⟩ (.int .i64 (numB bs:Int))).heap.size ((w.setCell ⟨X,0,none⟩ (.bool true)).setCell ⟨X,1,none⟩ (.int .i64 (numB bs:Int))) W→CBox W X (putFour bs c)∧Keeps (fun b=>b=X) w W):=fun W hb=>by
   have k:∀ j v,w.cell? ⟨X,j,none⟩=some v→((w.setCell ⟨X,0,none⟩ (.bool true)).setCell ⟨X,1,none⟩ (.int .i64 (numB bs:Int))).cell? ⟨X,j,none⟩=some (if 1=j then .int .i64 (numB bs:Int) else if 0=j then .bool true else v):=fun j v h=>box_set _ X 1 _ j _ (box_set _ X 0 _ j _ h)
   refine ⟨CBox.later ⟨⟨k 0 _ x0,k 1 _ x1,k 2 _ x2,k 3 _ x3,k 4 _ x4,k 5 _ x5,k 6 _ x6,k 7 _ x7,k 8 _ x8⟩,fun j=>by rw [World.frozen?_setCell,World.frozen?_setCell]; exact HX.out.free j⟩ hb,?_⟩
   exact (((Keeps.refl (fun b=>b=X) w).setCell X 0 _ (.inl rfl)).setCell X 1 _ (.inl rfl)).trans (Keeps.of_below hb _) (fun _ _ h=>h)
  clear hr hc e65 hg hx
  rw [h4]
  obtain ⟨four,as4,gr,rs,tm,fam,fwd,ll,lt⟩:=c
  unfold putFour capV at HF
  simp only at *
  generalize numB bs=N at *
  clear h4
  go_enter Tryz.func90,Tryz.ntmps90
  go_wp2_with fail
  refine HN.out.mono ?_
  rintro e w1 ⟨rfl,rfl⟩
  go_wp2_with fail
  refine (HF.out _).mono ?_
  rintro e w2 ⟨rfl,hb2⟩
  obtain ⟨h8,h9⟩:=HB.out w2 hb2
  have HH8:=hide h8
  have HH9:=hide h9
  clear h8 h9 hb2
  go_wp2
  go_ret
  refine ⟨?_,HH9.out⟩
  show Took X ro (.returned (.bool (!decide (N=0)))) w2
  rw [HE.out]
  by_cases h0:N=0
  ·rw [if_neg (fun h=>h h0),decide_eq_true h0]; rfl
  ·rw [if_pos h0,decide_eq_false h0]; exact ⟨rfl,HH8.out⟩
 ·have HE:Hid (readOne 65 bs c=none):=by show _=_; rw [e65,if_neg (fun h=>h4 h.1)]
  generalize readOne 65 bs c=ro at *
  clear hr hx e65
  generalize bs.length=n at *
  have h4i:((n:Int) != 4)=true:=by simp; omega
  clear h4
  go_enter Tryz.func90,Tryz.ntmps90
  go_wp2
  go_ret
  exact ⟨took_no _ _ _ HE.out,Keeps.refl _ _⟩
structure Later (w0:World) where
 w:World
 h:Below w0.heap.size w0 w
theorem later_some (w0:World):Nonempty (Later w0):=⟨⟨w0,Below.refl _ _⟩⟩
theorem region_later {P:Program}{id:Nat}{Q:Exit→Act→World→Prop}{a:Act}{w:World}{l:List Oper} (hm:P.follows .mixedOrders=true) (hB:Region.lexB .any l.toArray=true)
  (h:wpQuiet P l.toArray (fun w'=>∃ x:Later w,w'=x.w) (fun a'=>∀ w',(∃ x:Later w,w'=x.w)→Q .normal a' w') l a):(Code.region id l.toArray true).wp P Q a w :=
 wp_region_quiet (C:=fun w'=>∃ x:Later w,w'=x.w) hm hB ⟨⟨{ w with drawn:=w.drawn+1 },⟨rfl,rfl,rfl,Nat.le_refl _,fun _ _=>rfl⟩⟩,rfl⟩ (by simpa using h)
theorem calls_later {P:Program}{f:FuncId}{args:Array Value}{w0:World}{v:Value} (x:Later w0) (h:Calls P f args x.w fun e w'=>e=.returned v∧Below x.w.heap.size x.w w'):Calls P f args x.w fun e w'=>e=.returned v∧∃ y:Later w0,w'=y.w :=
 h.mono fun _ w' ⟨he,hb⟩=>⟨he,⟨w',x.h.trans ⟨hb.os,hb.tape,hb.output,hb.size,fun k hk=>hb.block k (Nat.lt_of_lt_of_le hk x.h.size)⟩⟩,rfl⟩
theorem calls_same {P:Program}{f:FuncId}{args:Array Value}{w0:World}{v:Value} (x:Later w0) (h:Calls P f args x.w fun e w'=>e=.returned v∧w'=x.w):Calls P f args x.w fun e w'=>e=.returned v∧∃ y:Later w0,w'=y.w :=
 h.mono fun _ _ ⟨he,hw⟩=>⟨he,x,hw⟩
theorem Later.cell {w0:World}(x:Later w0){a:Addr}{v:Value} (h:w0.cell? a=some v):x.w.cell? a=some v:=by
 rw [World.cell?_of_block (w:=w0) (x.h.block _ (World.block_lt_of_cell? w0 _ h))]
 exact h
section
variable {P:Program}{ops:Array Oper}{C:World→Prop}{Q:Exit→Act→World→Prop}{L:Nat}
def Ends (P:Program)(ops:Array Oper)(C:World→Prop)(Q:Exit→Act→World→Prop)(L:Nat)(a:Act):Prop:=∀ w,C w→wpOp P ops Q L (fun _ _=>False) a w
def anyT (P:Program)(ops:Array Oper)(C:World→Prop)(Q:Exit→Act→World→Prop)(L:Nat):Nat→Array Bool→Act→Prop
 | 0,_,_=>False
 | n+1,listed,a=>Region.ready .any ops listed≠[]∧∀ i∈Region.ready .any ops listed,if i=L then Ends P ops C Q L a else qOp P ops C i (anyT P ops C Q L n (listed.setIfInBounds i true)) a
theorem anyT_any:∀ (n:Nat)(listed:Array Bool)(a:Act)(w:World),C w→anyT P ops C Q L n listed a→wpAny P .any ops Q n listed a w
 | 0,_,_,_,_,h=>absurd h id
 | n+1,listed,a,w,hw,h=>by
  refine ⟨fun h0=>absurd h0 h.1,fun i hi=>?_⟩
  have h1:=h.2 i hi
  by_cases e:i=L
  ·rw [if_pos e] at h1
   subst e
   exact wpOp_mono (fun _ _ h9=>absurd h9 id) (h1 w hw)
  ·rw [if_neg e] at h1
   exact wpOp_of_qOp hw (fun a' w' hw' h9=>anyT_any n _ a' w' hw' h9) h1
theorem ends_put {oi oL:Oper}{v:Value}{a:Act} (hL:ops[L]?=some oL) (hap:oi.apart ops oL=true) (hsi:∀ cs b,oi.op≠.select cs b) (hsL:∀ cs b,oL.op≠.select cs b)
  (hQ:∀ c (a:Act) (d:Option Tmp) (v:Value) w,Q (.panic c) (a.put d v) w→Q (.panic c) a w) (hy:YieldsIn P ops C oi v a) (h:Ends P ops C Q L (a.put oi.dst v)):Ends P ops C Q L a:=fun w hw=>by
 have hy2:YieldsIf P ops (fun _=>False) oi v a:=by
  rcases hy with ⟨h1,_⟩ | h1
  ·exact .inl ⟨h1,fun _ h9=>absurd h9 id⟩
  ·exact .inr h1
 exact wpOp_mono (fun _ _ h9=>h9.2) (wpOp_putIf hL hap hsi hsL (fun c a w h9=>hQ c a _ _ w h9) hy2 (h w hw))
theorem anyT_first {i:Nat}{oi oL:Oper}{v:Value} (hi:ops[i]?=some oi) (hL:ops[L]?=some oL) (hne:i≠L) (hs:∀ (j:Nat) (o:Oper) cs b,ops[j]?=some o→o.op≠.select cs b) (hQ:∀ c (a:Act) (d:Option Tmp) (v:Value) w,Q (.panic c) (a.put d v) w→Q (.panic c) a w) :
  ∀ (n:Nat) (listed:Array Bool) (a:Act),
   (∀ j oj,ops[j]?=some oj→j≠i→listed.getD j true=false→(∀ e∈oj.after,Region.binds .any e=true→e.on≠i)→oi.apart ops oj=true) →
   i∈Region.ready .any ops listed→YieldsIn P ops C oi v a→anyT P ops C Q L n (listed.setIfInBounds i true) (a.put oi.dst v)→anyT P ops C Q L (n+1) listed a
 | 0,_,_,_,_,_,H=>absurd H id
 | n+1,listed,a,hfree,hr,hy,H=>by
  refine ⟨fun h=>(by rw [h] at hr; cases hr),fun j hj=>?_⟩
  by_cases hji:j=i
  ·subst hji
   rw [if_neg hne]
   exact hy.qOp hi H
  ·have h1:=H.2 j (ready_mono hj hji)
   obtain ⟨hjun,oj,hoj,hall⟩:=mem_ready.1 hj
   have hnot:∀ e∈oj.after,Region.binds .any e=true→e.on≠i:=fun e he hb heq=>by
    have g1:=hall e he hb
    have g0:=(mem_ready.1 hr).1
    rw [heq] at g1
    rcases Nat.lt_or_ge i listed.size with h' | h'
    ·simp [h'] at g0 g1; rw [g0] at g1; cases g1
    ·simp [Array.getElem?_eq_none h'] at g1
   have hap:=hfree j oj hoj hji hjun hnot
   by_cases e:j=L
   ·rw [if_pos e] at h1 ⊢
    subst e
    exact ends_put hoj hap (fun cs b=>hs i oi cs b hi) (fun cs b=>hs j oj cs b hoj) hQ hy h1
   ·rw [if_neg e] at h1 ⊢
    have h2:=qOp_put hoj hap (fun cs b=>hs i oi cs b hi) (fun cs b=>hs j oj cs b hoj) hy h1
    refine qOp_mono (fun a' h3=>anyT_first hi hL hne hs hQ n (listed.setIfInBounds j true) a' (fun k ok hk hki hun hno=>hfree k ok hk hki (by
     by_cases hjk:j=k
     ·subst hjk; exact hjun
     ·rw [getD_set_ne true hjk] at hun; exact hun) hno) (ready_mono hr (Ne.symm hji)) h3.1 ?_) h2
    rw [Array.setIfInBounds_comm _ _ hji]
    exact h3.2
theorem anyT_lex {oL:Oper}(hL:ops[L]?=some oL)(hs:∀ (j:Nat) (o:Oper) cs b,ops[j]?=some o→o.op≠.select cs b)(hQ:∀ c (a:Act) (d:Option Tmp) (v:Value) w,Q (.panic c) (a.put d v) w→Q (.panic c) a w) :
  ∀ (l:List Oper) (k:Nat) (listed:Array Bool) (a:Act),k+l.length=L→(∀ j,j < l.length→l[j]?=ops[k+j]?)→Region.lexFrom .any ops (l.length+1) k listed=true→wpQuiet P ops C (fun a'=>Ends P ops C Q L a') l a→anyT P ops C Q L (l.length+1) listed a
 | [],k,listed,a,hk,_,hB,h=>by
  have e:k=L:=hk
  subst e
  simp only [List.length_nil,Region.lexFrom,Bool.and_eq_true] at hB
  obtain ⟨⟨hr,_⟩,hB'⟩:=hB
  have hr2:k∈Region.ready .any ops listed:=by simpa using hr
  refine ⟨fun h0=>(by rw [h0] at hr2; cases hr2),fun j hj=>?_⟩
  by_cases e:j=k
  ·rw [if_pos e]; exact h
  ·have h9:=ready_mono hj e
   have h8:Region.ready .any ops (listed.setIfInBounds k true)=[]:=by simpa using hB'
   rw [h8] at h9
   cases h9
 | o :: l,k,listed,a,hk,hl,hB,h=>by
  have h0:ops[k]?=some o:=by simpa using (hl 0 (by simp)).symm
  rw [List.length_cons,Region.lexFrom] at hB
  simp only [Bool.and_eq_true] at hB
  obtain ⟨⟨hr,hf⟩,hB'⟩:=hB
  have hst:qOp P ops C k (wpQuiet P ops C (fun a'=>Ends P ops C Q L a') l) a:=by unfold qOp; simp only [h0]; exact h
  obtain ⟨v,hy,hK⟩:=yieldsIn_of_qOp h0 hst
  refine anyT_first h0 hL (by simp at hk; omega) hs hQ (l.length+1) listed a (Region.free_spec h0 hf) (by simpa using hr) hy ?_
  exact anyT_lex hL hs hQ l (k+1) _ _ (by simp at hk; omega) (fun j hj=>by
   have:=hl (j+1) (by simp; omega)
   simpa [Nat.add_assoc,Nat.add_comm 1 j] using this) hB' hK
end
theorem region_ends {P:Program}{id:Nat}{Q:Exit→Act→World→Prop}{a:Act}{w:World}{l:List Oper}{o:Oper} (hm:P.follows .mixedOrders=true) (hB:Region.lexB .any l.toArray=true) (hQ:∀ c (a:Act) (d:Option Tmp) (v:Value) w,Q (.panic c) (a.put d v) w→Q (.panic c) a w) (ho:l.getLast?=some o)
  (h:wpQuiet P l.toArray (fun w'=>∃ x:Later w,w'=x.w) (fun a'=>Region.wanted o (yielded l.toArray a'.tmps)=true∧∀ x:Later w,o.wp P a' x.w (fun _ _=>False) Q) l.dropLast a):(Code.region id l.toArray true).wp P Q a w:=by
 have hne:l≠[]:=by intro e; rw [e] at ho; cases ho
 have hlen:0 < l.length:=List.length_pos_iff.2 hne
 simp only [Region.lexB,Bool.and_eq_true] at hB
 have hL:l.toArray[l.length - 1]?=some o:=by
  rw [List.getElem?_toArray,← List.getLast?_eq_getElem?]
  exact ho
 refine wp_region_any hm (anyT_any (C:=fun w'=>∃ x:Later w,w'=x.w) (L:=l.length - 1) _ _ _ _ ⟨⟨{ w with drawn:=w.drawn+1 },⟨rfl,rfl,rfl,Nat.le_refl _,fun _ _=>rfl⟩⟩,rfl⟩ ?_)
 have hmono:∀ (m:List Oper) (a:Act),wpQuiet P l.toArray (fun w'=>∃ x:Later w,w'=x.w) (fun a'=>Region.wanted o (yielded l.toArray a'.tmps)=true∧∀ x:Later w,o.wp P a' x.w (fun _ _=>False) Q) m a→wpQuiet P l.toArray (fun w'=>∃ x:Later w,w'=x.w) (fun a'=>Ends P l.toArray (fun w'=>∃ x:Later w,w'=x.w) Q (l.length - 1) a') m a:=by
  intro m
  induction m with
  | nil =>
   intro a h9
   have h8:Region.wanted o (yielded l.toArray a.tmps)=true∧∀ x:Later w,o.wp P a x.w (fun _ _=>False) Q:=h9
   show Ends _ _ _ _ _ _
   intro w' hw'
   obtain ⟨x,rfl⟩:=hw'
   unfold wpOp
   rw [hL]
   simp only [h8.1,if_true]
   exact .inl (h8.2 x)
  | cons p m ih =>
   intro a h9
   unfold wpQuiet at h9 ⊢
   split
   ·rename_i hw
    rw [if_pos hw] at h9
    exact Oper.quiet_mono ih h9
   ·rename_i hw
    rw [if_neg hw] at h9
    exact ih _ h9
 have hd:l.dropLast.length+1=l.toArray.size:=by rw [List.length_dropLast,List.size_toArray]; omega
 have:=anyT_lex (C:=fun w'=>∃ x:Later w,w'=x.w) (Q:=Q) hL (Region.noSelect_spec hB.1) hQ l.dropLast 0 (Array.replicate l.toArray.size false) a (by rw [List.length_dropLast]; omega) (fun j hj=>by
  rw [Nat.zero_add,List.getElem?_toArray,List.getElem?_dropLast,if_pos (by rw [List.length_dropLast] at hj; exact hj)]) (by rw [hd]; exact hB.2) (hmono _ _ h)
 rwa [hd] at this
end Go.Proofs.YtogbjeaceboemaaGreatDoor
