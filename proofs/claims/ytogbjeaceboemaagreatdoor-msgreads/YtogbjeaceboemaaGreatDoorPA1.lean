import Derived.Test.YtogbjeaceboemaaGreatDoorPA0
import Derived.Deep.QuietTactic
import Derived.BigQuiet
import Derived.Shelf.SlSortCmp.WholeK
import Derived.Test.YtogbjeaceboemaaGreatDoorRows
namespace Go.Proofs.YtogbjeaceboemaaGreatDoor
open Go.RowKit
set_option maxRecDepth 100000
set_option maxHeartbeats 1600000 in
theorem rgood_some (b off n cap:Nat)(ss:List (Bool×List Int))(w:World)(hn:ss.length=n)(hsum:n+sumP ss≤100000)(hc:∀ i s,ss[i]?=some s→w.cell? ⟨b,off+i * 2,none⟩=some (.bool s.1)∧∃ a' c',w.cell? ⟨b,off+i * 2+1,none⟩=some (.slice a' s.2.length c')∧IRd w a' s.2) :
  Calls Tryz.prog 77 #[.slice (some ⟨b,off,none⟩) n cap] w fun e w'=>e=.returned (.bool (goodP ss))∧w'=w:=by
 have HC:=hide hc
 have HN:=hide hn
 clear hc hn
 go_enter Tryz.func77,Tryz.ntmps77
 go_wp2
 go_loop [3,4] (fun t i=>∃ k x:Nat,k≤n∧i=.int .i64 k∧t=.int .i64 (x:Int)∧Hid (x=sumP (ss.take k))∧Hid ((ss.take k).all okS=true)) (fun _ i=>n - (intOf i).toNat)
 case atStart=>exact ⟨0,0,Nat.zero_le _,rfl,rfl,rfl,rfl⟩
 case round =>
  obtain ⟨k,x,hk,rfl,rfl,HX,HA⟩:=hrel
  by_cases hlt:k < n
  ·have hkp:k < ss.length:=by rw [HN.out]; exact hlt
   obtain ⟨c0,a',c',c1,hr⟩:=HC.out k ss[k] (List.getElem?_eq_getElem hkp)
   have HR:=hide hr
   clear hr
   have HT:Hid (sumP (ss.take (k+1))=sumP (ss.take k)+(ss[k]).2.length):=by show sumP (ss.take (k+1))=_; rw [List.take_succ_eq_append_getElem hkp,sumP_snoc]
   have HTA:Hid ((ss.take (k+1)).all okS=((ss.take k).all okS && okS ss[k])):=by show (ss.take (k+1)).all okS=_; rw [List.take_succ_eq_append_getElem hkp]; simp only [List.all_append,List.all_cons,List.all_nil,Bool.and_true]
   have HNO:Hid (okS ss[k]=false→goodP ss=false):=goodP_no (List.getElem_mem hkp)
   have hx:x≤100000:=by have:=sumP_take ss k; rw [HX.out]; omega
   have hl:(ss[k]).2.length≤100000:=by have:=sumP_mem ss _ (List.getElem_mem hkp); omega
   generalize hsk:ss[k]=s at *
   clear hsk
   obtain ⟨b1,zs⟩:=s
   simp only at hl c1 c0
   generalize hll:zs.length=l at *
   have HLL:=hide hll
   clear hll
   have hk0:(0:Int)≤(k:Int):=Int.natCast_nonneg _
   have hk1:(k:Int) < (n:Int):=by omega
   by_cases h1:l < 1
   ·have HG:Hid (goodP ss=false):=HNO.out (okS_len (by show ¬ (1≤zs.length∧zs.length≤255); rw [HLL.out]; omega))
    have i1:(l:Int) < 1:=by omega
    go_wp2
    go_ret
    exact ⟨ret_bool HG.out.symm,rfl⟩
   ·by_cases h2:255 < l
    ·have HG:Hid (goodP ss=false):=HNO.out (okS_len (by show ¬ (1≤zs.length∧zs.length≤255); rw [HLL.out]; omega))
     have i1:decide ((l:Int) < 1)=false:=decide_eq_false (by omega)
     have i2:(255:Int) < (l:Int):=by omega
     go_wp2
     go_ret
     exact ⟨ret_bool HG.out.symm,rfl⟩
    ·have i1:decide ((l:Int) < 1)=false:=decide_eq_false (by omega)
     have i2:decide ((255:Int) < (l:Int))=false:=decide_eq_false (by omega)
     have hl255:l≤255:=by omega
     go_wp2
     go_loop [3,5] (fun t i=>∃ q y:Nat,q≤l∧i=.int .i64 q∧t=.int .i64 (y:Int)∧Hid (y=x+q)∧Hid ((zs.take q).all okN=true)) (fun _ i=>l - (intOf i).toNat)
     case atStart=>exact ⟨0,x,Nat.zero_le _,rfl,rfl,rfl,rfl⟩
     case round =>
      obtain ⟨q,y,hq,rfl,rfl,HY,HQ⟩:=hrel
      have hy:y≤200000:=by rw [HY.out]; omega
      by_cases hlq:q < l
      ·have hqp:q < zs.length:=by rw [HLL.out]; exact hlq
       obtain ⟨b2,o2,e2,hcz⟩:=HR.out (by show 0 < zs.length; omega)
       subst e2
       have cz:=hcz q zs[q] (List.getElem?_eq_getElem hqp)
       have HTQ:Hid ((zs.take (q+1)).all okN=((zs.take q).all okN && okN zs[q])):=by show (zs.take (q+1)).all _=_; rw [List.take_succ_eq_append_getElem hqp]; simp only [List.all_append,List.all_cons,List.all_nil,Bool.and_true]
       have HZ:Hid (okN zs[q]=false→goodP ss=false):=fun h=>HNO.out (okS_num (List.getElem_mem hqp) h)
       clear hcz
       generalize zs[q]=z at *
       have hq0:(0:Int)≤(q:Int):=Int.natCast_nonneg _
       have hq1:(q:Int) < (l:Int):=by omega
       by_cases hz1:z < 1
       ·have HG:Hid (goodP ss=false):=HZ.out (decide_eq_false (by omega))
        go_wp2
        go_ret
        exact ⟨ret_bool HG.out.symm,rfl⟩
       ·by_cases hz2:4294967295 < z
        ·have HG:Hid (goodP ss=false):=HZ.out (decide_eq_false (by omega))
         have j1:decide (z < 1)=false:=decide_eq_false hz1
         go_wp2
         go_ret
         exact ⟨ret_bool HG.out.symm,rfl⟩
        ·have j1:decide (z < 1)=false:=decide_eq_false hz1
         have j2:decide (4294967295 < z)=false:=decide_eq_false hz2
         have HQ2:Hid ((zs.take (q+1)).all okN=true):=by
          show (zs.take (q+1)).all okN=true
          rw [HTQ.out,HQ.out,show okN z=true from decide_eq_true (by omega)]; rfl
         clear hz1 hz2
         go_wp2
         exact ⟨⟨q+1,y+1,by omega,by go_num,by go_num,by show y+1=x+(q+1); rw [HY.out]; omega,HQ2⟩,by simp [intOf]; omega⟩
      ·have hql:q=l:=by omega
       subst hql
       have HS:Hid (okS (b1,zs)=true):=by
        show okS (b1,zs)=true
        have hz:=HQ.out
        rw [List.take_of_length_le (by rw [HLL.out]; omega)] at hz
        unfold okS
        rw [hz,decide_eq_true (by show 1≤zs.length∧zs.length≤255; rw [HLL.out]; omega)]; rfl
       go_wp2
       exact ⟨⟨k+1,y,by omega,by go_num,rfl,by show y=_; rw [HT.out,HY.out,HX.out],by show (ss.take (k+1)).all okS=true; rw [HTA.out,HA.out,HS.out]; rfl⟩,by simp [intOf]; omega⟩
  ·have hkl:ss.take k=ss:=List.take_of_length_le (by rw [HN.out]; omega)
   rw [hkl] at HX HA
   have HG:Hid (goodP ss=decide (sumP ss≤64)):=by show goodP ss=_; unfold goodP; rw [HA.out,Bool.true_and]
   go_wp2
   go_ret
   exact ⟨ret_bool (by rw [HG.out,HX.out,Bool.eq_iff_iff]; simp; omega),rfl⟩
set_option maxHeartbeats 400000 in
theorem rgood_empty (a:Option Addr)(cap:Nat)(w:World):Calls Tryz.prog 77 #[.slice a 0 cap] w fun e w'=>e=.returned (.bool true)∧w'=w:=by
 go_enter Tryz.func77,Tryz.ntmps77
 go_wp2
 go_loop [3,4] (fun t i=>i=.int .i64 0∧t=.int .i64 0) (fun _ i=>0 - (intOf i).toNat)
 case atStart=>exact ⟨rfl,rfl⟩
 case round =>
  obtain ⟨rfl,rfl⟩:=hrel
  go_wp2
  go_ret
  exact ⟨rfl,rfl⟩
theorem rgood_any (a:Option Addr)(cap:Nat)(ss:List (Bool×List Int))(w:World)(hsum:ss.length+sumP ss≤100000)(h:PthRd w a ss):Calls Tryz.prog 77 #[.slice a ss.length cap] w fun e w'=>e=.returned (.bool (goodP ss))∧w'=w:=by
 by_cases h0:ss=[]
 ·subst h0; exact rgood_empty a cap w
 ·obtain ⟨b,off,rfl,hc⟩:=h.cells (List.length_pos_iff.2 h0)
  exact rgood_some b off _ cap ss w rfl hsum hc
def cutTo (A n:Nat):Nat:=A / 2 ^ (32 - n) * 2 ^ (32 - n)
def bitAt (A i:Nat):Nat:=A / 2 ^ (31 - i) % 2
theorem bitAt_lt (A i:Nat):bitAt A i < 2:=Nat.mod_lt _ (by omega)
theorem cutTo_le (A n:Nat):cutTo A n≤A:=Nat.div_mul_le_self _ _
theorem cutTo_none (A:Nat)(h:A < 4294967296):cutTo A 0=0:=by
 unfold cutTo
 rw [Nat.div_eq_of_lt (by simpa using h),Nat.zero_mul]
theorem cutTo_succ (A i:Nat)(h:i < 32):cutTo A (i+1)=cutTo A i+bitAt A i * 2 ^ (31 - i):=by
 unfold cutTo bitAt
 rw [show 32 - (i+1)=31 - i from by omega,show 32 - i=(31 - i)+1 from by omega,Nat.pow_succ]
 generalize 2 ^ (31 - i)=m
 rw [← Nat.div_div_eq_div_mul]
 generalize A / m=q
 have e:=Nat.div_add_mod q 2
 have e2:q * m=(2 * (q / 2)+q % 2) * m:=by rw [e]
 rw [e2,Nat.add_mul]
 congr 1
 ac_rfl
theorem cutTo_lt (A n:Nat)(h:A < 4294967296):cutTo A n < 4294967296:=Nat.lt_of_le_of_lt (cutTo_le A n) h
def maskOf (n:Nat):Nat:=4294967296 - 2 ^ (32 - n)
theorem maskOf_lt (n:Nat):maskOf n < 4294967296:=by
 unfold maskOf
 have:=Nat.two_pow_pos (32 - n)
 omega
theorem pow_le32 (n:Nat):2 ^ (32 - n)≤4294967296:=by
 have:=Nat.pow_le_pow_right (n:=2) (by omega) (show 32 - n≤32 from by omega)
 simpa using this
theorem and_mask (A n:Nat)(h:A < 4294967296)(hn:n≤32):A &&& maskOf n=cutTo A n:=by
 have e:maskOf n=(2 ^ n - 1) * 2 ^ (32 - n):=by
  unfold maskOf
  rw [Nat.sub_mul,← Nat.pow_add,Nat.one_mul,show n+(32 - n)=32 from by omega]
 rw [e]
 unfold cutTo
 apply Nat.eq_of_testBit_eq
 intro i
 rw [Nat.testBit_and,Nat.testBit_mul_two_pow,Nat.testBit_mul_two_pow,Nat.testBit_two_pow_sub_one,Nat.testBit_div_two_pow]
 by_cases h1:32 - n≤i
 ·rw [show i - (32 - n)+(32 - n)=i from by omega]
  by_cases h2:i < 32
  ·simp [h1,show i - (32 - n) < n from by omega]
  ·have:A.testBit i=false:=Nat.testBit_lt_two_pow (Nat.lt_of_lt_of_le h (by have:=Nat.pow_le_pow_right (n:=2) (by omega) (show 32≤i from by omega); simpa using this))
   simp [this]
 ·simp [h1]
def szOf (n:Nat):Nat:=(n+7) / 8
theorem szOf_le (n:Nat)(h:n≤32):szOf n≤4:=by unfold szOf; omega
def numUp (f:Nat→Nat)(j:Nat):Nat→Nat
 | 0=>0
 | k+1=>numUp f j k+f (j+k) * 2 ^ (8 * (3 - k))
theorem numUp_div (f:Nat→Nat)(j:Nat):∀ k,k≤4→∃ q,numUp f j k=2 ^ (8 * (4 - k)) * q
 | 0,_=>⟨0,by simp [numUp]⟩
 | k+1,h=>by
  obtain ⟨q,hq⟩:=numUp_div f j k (by omega)
  refine ⟨256 * q+f (j+k),?_⟩
  rw [numUp,hq,show 4 - (k+1)=3 - k from by omega,show 8 * (4 - k)=8 * (3 - k)+8 from by omega,Nat.pow_add,Nat.mul_add]
  simp only [Nat.reducePow]
  rw [Nat.mul_assoc,Nat.mul_comm (f (j+k))]
theorem numUp_lt (f:Nat→Nat)(j k:Nat)(hk:k≤4)(hf:∀ q,q < k→f (j+q) < 256):numUp f j k+2 ^ (8 * (4 - k))≤4294967296:=by
 induction k with
 | zero=>simp [numUp]
 | succ k ih =>
  have h1:=ih (by omega) (fun q hq=>hf q (by omega))
  have h2:=hf k (by omega)
  rw [numUp,show 4 - (k+1)=3 - k from by omega]
  rw [show 8 * (4 - k)=8 * (3 - k)+8 from by omega,Nat.pow_add] at h1
  generalize 2 ^ (8 * (3 - k))=m at *
  have h3:f (j+k) * m+m≤m * 2 ^ 8:=by
   rw [← Nat.succ_mul,Nat.mul_comm]
   exact Nat.mul_le_mul_left m (by omega)
  omega
theorem numUp_lt32 (f:Nat→Nat)(j k:Nat)(hk:k≤4)(hf:∀ q,q < k→f (j+q) < 256):numUp f j k < 4294967296:=by
 have:=numUp_lt f j k hk hf
 have:=Nat.two_pow_pos (8 * (4 - k))
 omega
theorem numUp_or (f:Nat→Nat)(j k:Nat)(hk:k < 4)(hf:f (j+k) < 256):numUp f j k ||| f (j+k) * 2 ^ (8 * (3 - k))=numUp f j (k+1):=by
 obtain ⟨q,hq⟩:=numUp_div f j k (by omega)
 have hlt:f (j+k) * 2 ^ (8 * (3 - k)) < 2 ^ (8 * (4 - k)):=by
  rw [show 8 * (4 - k)=8+8 * (3 - k) from by omega,Nat.pow_add]
  exact Nat.mul_lt_mul_of_pos_right (by simpa using hf) (Nat.two_pow_pos _)
 rw [numUp,hq,Nat.two_pow_add_eq_or_of_lt hlt]
theorem numUp_congr (f g:Nat→Nat)(j i k:Nat)(h:∀ q,q < k→f (j+q)=g (i+q)):numUp f j k=numUp g i k:=by
 induction k with
 | zero=>rfl
 | succ k ih=>rw [numUp,numUp,ih (fun q hq=>h q (by omega)),h k (by omega)]
def okAt (f:Nat→Nat)(len i:Nat):Bool:=decide (f i≤32∧i+1+szOf (f i)≤len)
def itemAt (f:Nat→Nat)(i:Nat):Nat×Nat:=(cutTo (numUp f (i+1) (szOf (f i))) (f i),f i)
def decFuel (f:Nat→Nat)(len:Nat):Nat→Nat→List (Nat×Nat)→Option (List (Nat×Nat))
 | 0,_,acc=>some acc
 | k+1,i,acc=>if i < len then if okAt f len i then decFuel f len k (i+1+szOf (f i)) (acc++[itemAt f i]) else none else some acc
def decRun (f:Nat→Nat)(len i:Nat)(acc:List (Nat×Nat)):Option (List (Nat×Nat)):=decFuel f len (len - i) i acc
theorem decFuel_end {f:Nat→Nat}{len i:Nat}{acc:List (Nat×Nat)} (h:¬ i < len):∀ k,decFuel f len k i acc=some acc
 | 0=>rfl
 | k+1=>by rw [decFuel,if_neg h]
theorem decFuel_more (f:Nat→Nat)(len:Nat):∀ (k i:Nat) (acc:List (Nat×Nat)),len - i≤k→∀ d,decFuel f len (k+d) i acc=decFuel f len k i acc
 | 0,i,acc,h,d=>by rw [decFuel_end (by omega),decFuel_end (by omega)]
 | k+1,i,acc,h,d=>by
  rw [show k+1+d=(k+d)+1 from by omega,decFuel,decFuel]
  by_cases hi:i < len
  ·rw [if_pos hi,if_pos hi]
   by_cases ho:okAt f len i=true
   ·rw [if_pos ho,if_pos ho]
    exact decFuel_more f len k _ _ (by omega) d
   ·rw [if_neg ho,if_neg ho]
  ·rw [if_neg hi,if_neg hi]
theorem decRun_go {f:Nat→Nat}{len i:Nat}{acc:List (Nat×Nat)} (h:i < len) (ho:okAt f len i=true):decRun f len i acc=decRun f len (i+1+szOf (f i)) (acc++[itemAt f i]):=by
 unfold decRun
 rw [show len - i=(len - i - 1)+1 from by omega,decFuel,if_pos h,if_pos ho,show len - i - 1=(len - (i+1+szOf (f i)))+(len - i - 1 - (len - (i+1+szOf (f i)))) from by omega,decFuel_more _ _ _ _ _ (by omega)]
theorem decRun_no {f:Nat→Nat}{len i:Nat}{acc:List (Nat×Nat)} (h:i < len) (ho:okAt f len i=false):decRun f len i acc=none:=by
 unfold decRun
 rw [show len - i=(len - i - 1)+1 from by omega,decFuel,if_pos h,if_neg (by simp [ho])]
theorem decRun_end {f:Nat→Nat}{len i:Nat}{acc:List (Nat×Nat)} (h:¬ i < len):decRun f len i acc=some acc:=decFuel_end h _
def byteAt (A q:Nat):Nat:=A / 2 ^ (8 * (3 - q)) % 256
def num (f:Nat→Nat):Nat:=f 0 * 16777216+f 1 * 65536+f 2 * 256+f 3
theorem num_up (f:Nat→Nat):num f=numUp f 0 4:=by
 simp only [num,numUp,Nat.zero_add,Nat.sub_zero,Nat.reduceSub,Nat.reduceMul,Nat.reducePow,Nat.mul_one,Nat.add_zero]
set_option maxHeartbeats 800000 in
theorem num_eq (b off len cap:Nat)(f:Nat→Nat)(w:World)(hl:4≤len)(hf:∀ i,i < 4→f i < 256)(hc:∀ i,i < 4→w.cell? ⟨b,off+i,none⟩=some (.int .u8 (f i:Int))) :
  Calls Tryz.prog 29 #[.slice (some ⟨b,off,none⟩) len cap] w fun e w'=>e=.returned (.int .i64 (num f:Int))∧∃ k,w'=w.drewN k:=by
 have h0:=hf 0 (by omega)
 have h1:=hf 1 (by omega)
 have h2:=hf 2 (by omega)
 have h3:=hf 3 (by omega)
 have c0:=hc 0 (by omega)
 have c1:=hc 1 (by omega)
 have c2:=hc 2 (by omega)
 have c3:=hc 3 (by omega)
 rw [Nat.add_zero] at c0
 have l0:(0:Int) < (len:Int):=by omega
 have l1:(1:Int) < (len:Int):=by omega
 have l2:(2:Int) < (len:Int):=by omega
 have l3:(3:Int) < (len:Int):=by omega
 have HN:Hid ((num f:Int)=(f 0:Int) * 16777216+(f 1:Int) * 65536+(f 2:Int) * 256+(f 3:Int)):=by show ((num f:Nat):Int)=_; unfold num; omega
 clear hc hf
 generalize f 0=x0 at *
 generalize f 1=x1 at *
 generalize f 2=x2 at *
 generalize f 3=x3 at *
 go_enter Tryz.func29,Tryz.ntmps29
 go_wp2_with fail
 go_quiet (fail)
 go_wp2
 go_ret
 exact ⟨ret_int HN.out.symm,nq,rfl⟩
def b4 (z:Int):List Nat:=(List.range 4).map (byteAt z.toNat)
def nums:List Int→List Nat
 | []=>[]
 | z :: r=>b4 z++nums r
theorem nums_snoc (l:List Int)(z:Int):nums (l++[z])=nums l++b4 z:=by
 induction l with
 | nil=>simp [nums]
 | cons a l ih=>simp only [List.cons_append,nums,ih,List.append_assoc]
theorem b4_length (z:Int):(b4 z).length=4:=by simp [b4]
theorem nums_length (l:List Int):(nums l).length=4 * l.length:=by
 induction l with
 | nil=>rfl
 | cons a l ih=>simp only [nums,List.length_append,b4_length,ih,List.length_cons]; omega
def kindOf (b:Bool):Nat:=if b then 1 else 2
def encSeg (s:Bool×List Int):List Nat:=[kindOf s.1,s.2.length]++nums s.2
def encSegs:List (Bool×List Int)→List Nat
 | []=>[]
 | s :: r=>encSeg s++encSegs r
theorem encSegs_snoc (l:List (Bool×List Int))(s:Bool×List Int):encSegs (l++[s])=encSegs l++encSeg s:=by
 induction l with
 | nil=>simp [encSegs]
 | cons a l ih=>simp only [List.cons_append,encSegs,ih,List.append_assoc]
theorem encSegs_length (l:List (Bool×List Int)):(encSegs l).length=2 * l.length+4 * sumP l:=by
 induction l with
 | nil=>rfl
 | cons a l ih=>simp only [encSegs,encSeg,List.length_append,nums_length,ih,List.length_cons,sumP,List.length_nil]; omega
def encPath (ss:List (Bool×List Int)):List Nat:=if goodP ss then encSegs ss else []
structure Cp where
 four:Bool
 as4:Int
 gr:Bool
 rs:Bool
 tm:Int
 fam:Bool
 fwd:Bool
 ll:Bool
 lt:Int
def cp0:Cp:=⟨false,0,false,false,0,false,false,false,0⟩
def gFour (c:Cp):Bool:=if c.four then decide (1≤c.as4∧c.as4≤4294967295) else decide (c.as4=0)
def okE (bs:List Nat):Bool:=decide (2≤bs.length∧2+bs.getD 1 0≤bs.length)
def runE {S:Type}(f:Nat→List Nat→S→Option S):Nat→List Nat→S→Option S
 | _,[],c=>some c
 | 0,_ :: _,_=>none
 | k+1,x :: r,c=>if okE (x :: r) then (f x ((r.drop 1).take (r.getD 0 0)) c).bind (runE f k ((r.drop 1).drop (r.getD 0 0))) else none
def eachC {S:Type}(f:Nat→List Nat→S→Option S)(bs:List Nat)(c:S):Option S:=runE f bs.length bs c
theorem runE_more {S:Type}(f:Nat→List Nat→S→Option S):∀ (k:Nat) (bs:List Nat) (c:S),bs.length≤k→∀ d,runE f (k+d) bs c=runE f k bs c
 | k,[],c,_,d=>by cases k <;> cases d <;> rfl
 | 0,x :: r,c,h,d=>by simp at h
 | k+1,x :: r,c,h,d=>by
  rw [show k+1+d=(k+d)+1 from by omega,runE,runE]
  have e:runE f (k+d) ((r.drop 1).drop (r.getD 0 0))=runE f k ((r.drop 1).drop (r.getD 0 0)):=by
   funext c2
   exact runE_more f k _ c2 (by simp only [List.length_drop,List.length_cons] at *; omega) d
  rw [e]
theorem eachC_end {S:Type}(f:Nat→List Nat→S→Option S)(c:S):eachC f [] c=some c:=rfl
theorem eachC_no {S:Type}{f:Nat→List Nat→S→Option S}{bs:List Nat}{c:S} (h0:bs≠[]) (h:okE bs=false):eachC f bs c=none:=by
 cases bs with
 | nil=>exact absurd rfl h0
 | cons x r=>unfold eachC; rw [List.length_cons,runE,h]; rfl
theorem eachC_go {S:Type}{f:Nat→List Nat→S→Option S}{bs:List Nat}{c:S} (h:okE bs=true) :
  eachC f bs c=(f (bs.getD 0 0) ((bs.drop 2).take (bs.getD 1 0)) c).bind (eachC f (bs.drop (2+bs.getD 1 0))):=by
 cases bs with
 | nil=>simp [okE] at h
 | cons x r =>
  unfold eachC
  rw [List.length_cons,runE,if_pos h]
  have e:runE f r.length ((r.drop 1).drop (r.getD 0 0))=runE f ((x :: r).drop (2+(x :: r).getD 1 0)).length ((x :: r).drop (2+(x :: r).getD 1 0)):=by
   funext c2
   have e1:(r.drop 1).drop (r.getD 0 0)=(x :: r).drop (2+(x :: r).getD 1 0):=by
    rw [List.drop_drop,show 2+(x :: r).getD 1 0=(1+r.getD 0 0)+1 from by simp; omega,List.drop_succ_cons]
   rw [e1]
   have e2:((x :: r).drop (2+(x :: r).getD 1 0)).length≤r.length:=by simp only [List.length_drop,List.length_cons]; omega
   obtain ⟨d,hd⟩:=Nat.le.dest e2
   rw [← hd]
   exact runE_more f _ _ c2 (Nat.le_refl _) d
  rw [e]
  rfl
def pairs (bs:List Nat):Option (List (Nat×List Nat)):=eachC (fun k v l=>some (l++[(k,v)])) bs []
def foldE {S:Type}(f:Nat→List Nat→S→Option S):List (Nat×List Nat)→S→Option S
 | [],c=>some c
 | p :: l,c=>(f p.1 p.2 c).bind (foldE f l)
theorem foldE_app {S:Type}(f:Nat→List Nat→S→Option S)(l r:List (Nat×List Nat))(c:S):foldE f (l++r) c=(foldE f l c).bind (foldE f r):=by
 induction l generalizing c with
 | nil=>rfl
 | cons p l ih =>
  simp only [List.cons_append,foldE]
  cases f p.1 p.2 c with
  | none=>rfl
  | some d=>exact ih d
theorem each_pairs {S:Type}(f:Nat→List Nat→S→Option S):∀ (n:Nat) (bs:List Nat) (l:List (Nat×List Nat)) (c:S),bs.length≤n →
  (foldE f l c).bind (eachC f bs)=(eachC (fun k v (l:List (Nat×List Nat))=>some (l++[(k,v)])) bs l).bind fun l2=>foldE f l2 c
 | n,bs,l,c,hn=>by
  by_cases h0:bs=[]
  ·subst h0
   rw [eachC_end]
   show _=foldE f l c
   cases foldE f l c <;> rfl
  ·cases ho:okE bs with
   | false =>
    rw [eachC_no h0 ho]
    cases h:foldE f l c with
    | none=>rfl
    | some d=>show eachC f bs d=none; rw [eachC_no h0 ho]
   | true =>
    have hl:(bs.drop (2+bs.getD 1 0)).length < bs.length:=by
     have h1:2≤bs.length:=(of_decide_eq_true ho).1
     rw [List.length_drop]; omega
    cases n with
    | zero=>simp only [Nat.le_zero] at hn; omega
    | succ n =>
     have ih:=each_pairs f n (bs.drop (2+bs.getD 1 0)) (l++[(bs.getD 0 0,(bs.drop 2).take (bs.getD 1 0))]) c (by omega)
     rw [eachC_go ho]
     show _=(eachC _ _ _).bind _
     rw [← ih,foldE_app]
     cases h:foldE f l c with
     | none=>rfl
     | some d =>
      show eachC f bs d=(foldE f [_] d).bind _
      rw [eachC_go ho]
      show _=((f _ _ d).bind (foldE f [])).bind _
      cases f (bs.getD 0 0) ((bs.drop 2).take (bs.getD 1 0)) d <;> rfl
theorem eachC_cut {S:Type}(f:Nat→List Nat→S→Option S)(bs:List Nat)(c:S):eachC f bs c=(pairs bs).bind fun l=>foldE f l c:=each_pairs f bs.length bs [] c (Nat.le_refl _)
def numB (d:List Nat):Nat:=d.foldl (fun n x=>n * 256+x) 0
theorem numB_snoc (d:List Nat)(x:Nat):numB (d++[x])=numB d * 256+x:=by simp [numB]
def firstU (s:Nat):Nat→List Nat→Option (List Nat)
 | 0,_=>none
 | k+1,b=>if b.length < s then none else if b.take 3=[0,1,1] then some (b.take s) else firstU s k (b.drop s)
def fstU (s:Nat)(b:List Nat):Option (List Nat):=firstU s (b.length+1) b
theorem firstU_more (s:Nat)(hs:0 < s):∀ (k:Nat) (b:List Nat),b.length < k→∀ d,firstU s (k+d) b=firstU s k b
 | 0,b,h,d=>by omega
 | k+1,b,h,d=>by
  rw [show k+1+d=(k+d)+1 from by omega,firstU,firstU]
  by_cases h1:b.length < s
  ·rw [if_pos h1,if_pos h1]
  ·rw [if_neg h1,if_neg h1]
   by_cases h2:b.take 3=[0,1,1]
   ·rw [if_pos h2,if_pos h2]
   ·rw [if_neg h2,if_neg h2]
    exact firstU_more s hs k _ (by rw [List.length_drop]; omega) d
theorem fstU_end {s:Nat}{b:List Nat} (h:b.length < s):fstU s b=none:=by unfold fstU; rw [firstU,if_pos h]
theorem fstU_hit {s:Nat}{b:List Nat} (h:¬ b.length < s) (h3:b.take 3=[0,1,1]):fstU s b=some (b.take s):=by unfold fstU; rw [firstU,if_neg h,if_pos h3]
theorem fstU_miss {s:Nat}{b:List Nat} (hs:0 < s) (h:¬ b.length < s) (h3:b.take 3≠[0,1,1]):fstU s b=fstU s (b.drop s):=by
 unfold fstU
 rw [firstU,if_neg h,if_neg h3]
 have e:(b.drop s).length+1≤b.length:=by rw [List.length_drop]; omega
 obtain ⟨d,hd⟩:=Nat.le.dest e
 rw [← hd]
 exact firstU_more s hs _ _ (by omega) d
def fwdOf (u:Option (List Nat)):Bool:=match u with
 | none=>false
 | some l=>decide (128≤l.getD 3 0)
def ltCp (u:Option (List Nat)):Nat:=match u with
 | none=>0
 | some l=>l.getD 4 0 * 65536+l.getD 5 0 * 256+l.getD 6 0
def putFour (b:List Nat)(c:Cp):Cp:={ c with four:=true,as4:=(numB b:Int) }
def putGR (b:List Nat)(c:Cp):Cp:={ c with gr:=true,rs:=decide (128≤b.getD 0 0),tm:=((b.getD 0 0 % 16 * 256+b.getD 1 0:Nat):Int),fam:=(fstU 4 (b.drop 2)).isSome,fwd:=fwdOf (fstU 4 (b.drop 2)) }
def putLL (b:List Nat)(c:Cp):Cp:={ c with ll:=(fstU 7 b).isSome,lt:=(ltCp (fstU 7 b):Int) }
def readOne (k:Nat)(b:List Nat)(c:Cp):Option Cp :=
 if k=65 then (if b.length=4∧numB b≠0 then some (putFour b c) else none)
 else if k=64 then (if b.length % 4=2 then some (putGR b c) else none)
 else if k=71 then (if b.length % 7=0 then some (putLL b c) else none)
 else some c
def readPar (k:Nat)(b:List Nat)(c:Cp):Option Cp:=if k=2 then eachC readOne b c else none
def readC (bs:List Nat):Option Cp:=eachC readPar bs cp0
theorem numB_four (a b c d:Nat):numB [a,b,c,d]=((a * 256+b) * 256+c) * 256+d:=by simp [numB]
theorem getD_lt256 {b:List Nat}(hb:∀ x∈b,x < 256)(i:Nat):b.getD i 0 < 256:=by
 rw [List.getD_eq_getElem?_getD]
 by_cases h:i < b.length
 ·rw [List.getElem?_eq_getElem h]; exact hb _ (List.getElem_mem h)
 ·rw [List.getElem?_eq_none (by omega)]; simp
open Go.Shelf
def sortR_ren:Go.Shelf.Ren:=⟨fun | 6=>72 | 15=>106 | 14=>105 | 28=>135 | 29=>136 | 20=>127 | 21=>128 | 22=>129 | 23=>130 | 24=>131 | 25=>132 | 26=>133 | 27=>134 | 46=>149 | 47=>150 | 48=>151 | 49=>152 | 50=>153 | 57=>163 | n=>n,fun | 22=>32 | 24=>104 | 25=>130 | 3=>3 | 39=>94 | 0=>0 | 53=>24 | 55=>176 | 4=>4 | 46=>169 | 45=>168 | 50=>86 | 5=>5 | 9=>9 | 66=>189 | 70=>193 | 76=>200 | 77=>201 | n=>n,fun | n=>n⟩
theorem sortR:Go.Proofs.SlLaysF0.n6 Tryz.prog sortR_ren:={
 mixed:=by kernel_rfl
 f6:=⟨Tryz.f72.name,by decide,Tryz.func72.trans (congrArg some (by kernel_rfl))⟩
 f14:=⟨Tryz.f105.name,by decide,Tryz.func105.trans (congrArg some (by kernel_rfl))⟩
 f15:=Tryz.func106.trans (congrArg some (by kernel_rfl))
 f20:=⟨Tryz.f127.name,by decide,Tryz.func127.trans (congrArg some (by kernel_rfl))⟩
 f21:=⟨Tryz.f128.name,by decide,Tryz.func128.trans (congrArg some (by kernel_rfl))⟩
 f22:=⟨Tryz.f129.name,by decide,Tryz.func129.trans (congrArg some (by kernel_rfl))⟩
 f23:=⟨Tryz.f130.name,by decide,Tryz.func130.trans (congrArg some (by kernel_rfl))⟩
 f24:=⟨Tryz.f131.name,by decide,Tryz.func131.trans (congrArg some (by kernel_rfl))⟩
 f25:=⟨Tryz.f132.name,by decide,Tryz.func132.trans (congrArg some (by kernel_rfl))⟩
 f26:=⟨Tryz.f133.name,by decide,Tryz.func133.trans (congrArg some (by kernel_rfl))⟩
 f27:=⟨Tryz.f134.name,by decide,Tryz.func134.trans (congrArg some (by kernel_rfl))⟩
 f28:=Tryz.func135.trans (congrArg some (by kernel_rfl))
 f29:=Tryz.func136.trans (congrArg some (by kernel_rfl))
 f46:=⟨Tryz.f149.name,by decide,Tryz.func149.trans (congrArg some (by kernel_rfl))⟩
 f47:=Tryz.func150.trans (congrArg some (by kernel_rfl))
 f48:=Tryz.func151.trans (congrArg some (by kernel_rfl))
 f49:=⟨Tryz.f152.name,by decide,Tryz.func152.trans (congrArg some (by kernel_rfl))⟩
 f50:=⟨Tryz.f153.name,by decide,Tryz.func153.trans (congrArg some (by kernel_rfl))⟩
 f57:=⟨Tryz.f163.name,by decide,Tryz.func163.trans (congrArg some (by kernel_rfl))⟩
 t0:=Tryz.underlying0
 a0:=Tryz.isAgg0
 z0:=Tryz.sizeOf0
 v0:=Tryz.zeroValue0
 t3:=Tryz.underlying3
 a3:=Tryz.isAgg3
 z3:=Tryz.sizeOf3
 v3:=Tryz.zeroValue3
 t4:=Tryz.underlying4
 a4:=Tryz.isAgg4
 z4:=Tryz.sizeOf4
 v4:=Tryz.zeroValue4
 t5:=Tryz.underlying5
 a5:=Tryz.isAgg5
 z5:=Tryz.sizeOf5
 v5:=Tryz.zeroValue5
 t9:=Tryz.underlying9
 a9:=Tryz.isAgg9
 z9:=Tryz.sizeOf9
 v9:=Tryz.zeroValue9
 t22:=Tryz.underlying32
 a22:=Tryz.isAgg32
 z22:=Tryz.sizeOf32
 v22:=Tryz.zeroValue32
 t25:=Tryz.underlying130
 a25:=Tryz.isAgg130
 z25:=Tryz.sizeOf130
 v25:=Tryz.zeroValue130
 t39:=Tryz.underlying94
 a39:=Tryz.isAgg94
 z39:=Tryz.sizeOf94
 v39:=Tryz.zeroValue94
 t45:=Tryz.underlying168
 a45:=Tryz.isAgg168
 z45:=Tryz.sizeOf168
 v45:=Tryz.zeroValue168
 t46:=Tryz.underlying169
 a46:=Tryz.isAgg169
 z46:=Tryz.sizeOf169
 v46:=Tryz.zeroValue169
 t50:=Tryz.underlying86
 a50:=Tryz.isAgg86
 z50:=Tryz.sizeOf86
 v50:=Tryz.zeroValue86
 t53:=Tryz.underlying24
 a53:=Tryz.isAgg24
 z53:=Tryz.sizeOf24
 v53:=Tryz.zeroValue24
 t55:=Tryz.underlying176
 a55:=Tryz.isAgg176
 z55:=Tryz.sizeOf176
 v55:=Tryz.zeroValue176
 t66:=Tryz.underlying189
 a66:=Tryz.isAgg189
 z66:=Tryz.sizeOf189
 v66:=Tryz.zeroValue189
 t70:=Tryz.underlying193
 a70:=Tryz.isAgg193
 z70:=Tryz.sizeOf193
 v70:=Tryz.zeroValue193
 t76:=Tryz.underlying200
 a76:=Tryz.isAgg200
 z76:=Tryz.sizeOf200
 v76:=Tryz.zeroValue200
 t77:=Tryz.underlying201
 a77:=Tryz.isAgg201
 z77:=Tryz.sizeOf201
 v77:=Tryz.zeroValue201 }
end Go.Proofs.YtogbjeaceboemaaGreatDoor
