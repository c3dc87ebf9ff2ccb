import Derived.Test.YtdojlejehjbliaaGreatDoorPA16
import Derived.Laws.BitsAllLaws
namespace Go.Proofs.YtdojlejehjbliaaGreatDoor
set_option maxHeartbeats 4000000
open _root_.Option renaming none → I,some → Z
open _root_.Nat renaming le_refl → J
open _root_.Go.Value renaming slice → V,bool → U,int → D,pointer → T
open _root_.Go.World renaming block_lt_of_cell? → Q
open _root_.Go.RowKit.Below renaming refl → Y
open _root_.Go.Proofs.Tryz renaming prog → K
open _root_.Go.Ending renaming returned → E
open _root_.Go.IntKind renaming i64 → R
open Go.RowKit
set_option maxRecDepth 100000
def Qof (b:Bool)(a:Option Addr)(n c:Nat):Value:=.agg #[U b,V a n c]
theorem Qo3 (i:Nat)(w:World)(hi:i < 4):Calls K 164 #[D R (i:Int)] w fun e w'=>e=E (D R ((8 * (3 - i):Nat):Int))∧w'=w:=by
 go_enter Tryz.func164,Tryz.ntmps164
 go_wp2
 go_ret
 exact ⟨Qfu (by omega),rfl⟩
theorem Qo0 (b:Bool)(a:Option Addr)(n c:Nat)(lo hi:Int)(x y:Nat)(w:World)(hx:w.cell? ⟨x,0,I⟩=Z (D R lo))(hy:w.cell? ⟨y,0,I⟩=Z (D R hi)) :
  Calls K 161 #[Qof b a n c,T (Z ⟨x,0,I⟩),T (Z ⟨y,0,I⟩)] w fun e w'=>e=E (U (decide (lo≤(n:Int)∧(n:Int)≤hi)))∧Below w.heap.size w w':=by
 have zx:=Q w _ hx
 have zy:=Q w _ hy
 simp only at zx zy
 unfold Qof
 by_cases h:lo≤(n:Int)
 ·have HD:Hid (decide (lo≤(n:Int)∧(n:Int)≤hi)=decide ((n:Int)≤hi)):=by show decide _=_; rw [Bool.eq_iff_iff]; simp [h]
  go_enter Tryz.func161,Tryz.ntmps161
  go_wp2
  go_ret
  exact ⟨Qa8 HD.out.symm,(Y _ _).alloc (J _) _⟩
 ·have HD:Hid (decide (lo≤(n:Int)∧(n:Int)≤hi)=false):=by show decide _=_; exact decide_eq_false (fun h9=>h h9.1)
  have h2:decide (lo≤(n:Int))=false:=decide_eq_false h
  clear h
  go_enter Tryz.func161,Tryz.ntmps161
  go_wp2
  go_ret
  exact ⟨Qa8 HD.out.symm,(Y _ _).alloc (J _) _⟩
theorem Qru (sb:Bool)(b2 o2 n c:Nat)(zs:List Int)(x y:Nat)(w:World)(hn:zs.length=n)(hl:n≤100000)(hx:w.cell? ⟨x,0,I⟩=Z (D R 1))(hy:w.cell? ⟨y,0,I⟩=Z (D R 4294967295))(hc:∀ j z,zs[j]?=Z z→w.cell? ⟨b2,o2+j,I⟩=Z (D R z)) :
  Calls K 162 #[Qof sb (Z ⟨b2,o2,I⟩) n c,T (Z ⟨x,0,I⟩),T (Z ⟨y,0,I⟩)] w fun e w'=>e=E (U (zs.all okN))∧Below w.heap.size w w':=by
 have zx:=Q w _ hx
 have zy:=Q w _ hy
 simp only at zx zy
 have HC:=Qaa hc
 have HN:=Qaa hn
 clear hc hn
 unfold Qof
 go_enter Tryz.func162,Tryz.ntmps162
 go_wp2
 go_loop [10] (fun i=>∃ q:Nat,q≤n∧i=D R q∧Hid ((zs.take q).all okN=true)) (fun i=>n - (intOf i).toNat)
 case atStart=>exact ⟨0,Nat.zero_le _,rfl,rfl⟩
 case round =>
  obtain ⟨q,hq,rfl,HQ⟩:=hrel
  by_cases hlq:q < n
  ·have hqp:q < zs.length:=by rw [HN.out]; exact hlq
   have cz:=HC.out q zs[q] (List.getElem?_eq_getElem hqp)
   have zz:=Q w _ cz
   simp only at zz
   have HTQ:Hid ((zs.take (q+1)).all okN=((zs.take q).all okN && okN zs[q])):=by show (zs.take (q+1)).all _=_; rw [List.take_succ_eq_append_getElem hqp]; simp only [List.all_append,List.all_cons,List.all_nil,Bool.and_true]
   have HZ:Hid (okN zs[q]=false→zs.all okN=false):=fun h=>by
    show zs.all okN=false
    rw [Bool.eq_false_iff]
    intro hh
    rw [List.all_eq_true.1 hh _ (List.getElem_mem hqp)] at h
    cases h
   generalize zs[q]=z at *
   have hq0:(0:Int)≤(q:Int):=Int.natCast_nonneg _
   have hq1:(q:Int) < (n:Int):=by omega
   by_cases hz1:z < 1
   ·have HG:Hid (zs.all okN=false):=HZ.out (decide_eq_false (by omega))
    go_wp2
    go_ret
    exact ⟨Qa8 HG.out.symm,(Y _ _).alloc (J _) _⟩
   ·by_cases hz2:4294967295 < z
    ·have HG:Hid (zs.all okN=false):=HZ.out (decide_eq_false (by omega))
     have j1:decide (z < 1)=false:=decide_eq_false hz1
     go_wp2
     go_ret
     exact ⟨Qa8 HG.out.symm,(Y _ _).alloc (J _) _⟩
    ·have j1:decide (z < 1)=false:=decide_eq_false hz1
     have j2:decide (4294967295 < z)=false:=decide_eq_false hz2
     have HQ2:Hid ((zs.take (q+1)).all okN=true):=by
      show (zs.take (q+1)).all okN=true
      rw [HTQ.out,HQ.out,show okN z=true from decide_eq_true (by omega)]; rfl
     clear hz1 hz2
     go_wp2
     exact ⟨⟨q+1,by omega,by go_num,HQ2⟩,by simp [intOf]; omega⟩
  ·go_wp2
   go_ret
   exact ⟨Qa8 (by rw [← HQ.out,List.take_of_length_le (by rw [HN.out]; omega)]),(Y _ _).alloc (J _) _⟩
theorem Qr8 (sb:Bool)(a:Option Addr)(c:Nat)(x y:Nat)(w:World) :
  Calls K 162 #[Qof sb a 0 c,T (Z ⟨x,0,I⟩),T (Z ⟨y,0,I⟩)] w fun e w'=>e=E (U true)∧Below w.heap.size w w':=by
 unfold Qof
 go_enter Tryz.func162,Tryz.ntmps162
 go_wp2
 go_loop [10] (fun i=>i=D R 0) (fun i=>0 - (intOf i).toNat)
 case atStart=>exact rfl
 case round =>
  obtain rfl:=hrel
  go_wp2
  go_ret
  exact ⟨rfl,(Y _ _).alloc (J _) _⟩
theorem Quo (sb:Bool)(a:Option Addr)(c:Nat)(zs:List Int)(x y:Nat)(w:World)(hl:zs.length≤100000)(hx:w.cell? ⟨x,0,I⟩=Z (D R 1))(hy:w.cell? ⟨y,0,I⟩=Z (D R 4294967295))(hr:IRd w a zs) :
  Calls K 162 #[Qof sb a zs.length c,T (Z ⟨x,0,I⟩),T (Z ⟨y,0,I⟩)] w fun e w'=>e=E (U (zs.all okN))∧Below w.heap.size w w':=by
 cases zs with
 | nil=>exact Qr8 sb a c x y w
 | cons z r =>
  obtain ⟨b2,o2,rfl,hc⟩:=hr (by simp)
  exact Qru sb b2 o2 _ c _ x y w rfl hl hx hy hc
theorem Qwq (sb:Bool)(a:Option Addr)(n c k C M:Nat)(w:World)(hn:n≤100000)(hk:k≤100000)(hC:w.cell? ⟨C,0,I⟩=Z (D R (k:Int)))(hz:w.frozen? ⟨C,0,I⟩=false)(hM:w.cell? ⟨M,0,I⟩=Z (D R 64))(hne:M≠C) :
  Calls K 163 #[Qof sb a n c,T (Z ⟨C,0,I⟩),T (Z ⟨M,0,I⟩)] w fun e w'=>e=E (U (decide (k+n≤64)))∧Qae (fun b=>b=C) w w'∧w'.cell? ⟨C,0,I⟩=Z (D R ((k+n:Nat):Int))∧w'.frozen? ⟨C,0,I⟩=false:=by
 have zC:=Q w _ hC
 have zM:=Q w _ hM
 simp only at zC zM
 unfold Qof
 go_enter Tryz.func163,Tryz.ntmps163
 go_wp2
 go_ret
 refine ⟨Qa8 (by rw [Bool.eq_iff_iff]; simp; omega),((Qae.refl (fun b=>b=C) w).setCell C _ _ (.inl rfl)).alloc _,?_,?_⟩
 ·rw [World.cell?_alloc_lt _ _ _ (by simpa using zC),World.cell?_setCell_same _ _ _ hC]; simp
 ·simp [go_sem,zC,hz]
def Qkf (rb:Nat→Bool):Nat→Bool
 | 0=>true
 | n+1=>Qkf rb n && rb n
theorem Qkb (rb:Nat→Bool)(k:Nat)(h:rb k=false):∀ n,k < n→Qkf rb n=false
 | 0,hk=>absurd hk (by omega)
 | n+1,hk=>by
  by_cases e:k=n
  ·subst e; simp [Qkf,h]
  ·simp [Qkf,Qkb rb k h n (by omega)]
theorem Qtb (b o n c:Nat)(sb:Bool)(sa:Option Addr)(sn sc:Nat)(fs:Nat→Nat)(caps:Nat→Array Value)(rb:Nat→Bool)(Inv:Nat→World→Prop)(F:Nat→Prop)(w:World)(hn:n≤3)
  (hF:∀ k,F k→k < w.heap.size) (hb:¬ F b)
  (hcell:∀ i,i < n→w.cell? ⟨b,o+i,I⟩=Z (.func (.func (fs i)) #[] (caps i)))
  (hent:∀ i,i < n→∀ args w,(callFunc (fs i) args).run K w=.ok (.enter (fs i) args) w)
  (hst:∀ k w1 w2,Inv k w1→Below w1.heap.size w1 w2→Inv k w2) (h0:Inv 0 w)
  (hcall:∀ i,i < n→∀ w1,Qae F w w1→Inv i w1→Calls K (fs i) (#[Qof sb sa sn sc]++caps i) w1 fun e w2=>e=E (U (rb i))∧Qae F w1 w2∧Inv (i+1) w2) :
  Calls K 157 #[Qof sb sa sn sc,V (Z ⟨b,o,I⟩) n c] w fun e w'=>e=E (U (Qkf rb n))∧Qae F w w'∧(Qkf rb n=true→Inv n w'):=by
 have HC:=Qaa hcell
 have HE:=Qaa hent
 have HK:=Qaa hcall
 have HFF:=Qaa hF
 have HI0:=Qaa (hst 0 w (w.alloc (.cells #[U sb,V sa sn sc] 134)) h0 ((Y _ _).alloc (J _) _))
 clear hcell hcall hent hF hst h0
 unfold Qof
 go_enter Tryz.func157,Tryz.ntmps157
 go_wp2
 go_loopw [9] (fun i wq=>∃ k:Nat,k≤n∧i=D R k∧Hid (Qkf rb k=true)∧Hid (Qae F w wq)∧Hid (Inv k wq)∧w.heap.size < wq.heap.size∧wq.cell? ⟨w.heap.size,0,I⟩=Z (U sb)∧wq.cell? ⟨w.heap.size,1,I⟩=Z (V sa sn sc)) (fun i _=>n - (intOf i).toNat)
 case atStart=>exact ⟨0,Nat.zero_le _,rfl,rfl,(Qae.refl _ _).alloc _,HI0,by simp,by simp [go_sem],by simp [go_sem]⟩
 case round =>
  obtain ⟨k,hk,rfl,HA,HB,HI,hz,c0,c1⟩:=hrel
  by_cases hlt:k < n
  ·have ck:wr.cell? ⟨b,o+k,I⟩=Z (.func (.func (fs k)) #[] (caps k)):=by
    rw [HB.out.cell _ (Q w _ (HC.out k hlt)) hb]
    exact HC.out k hlt
   have ek:=HE.out k hlt
   have hk0:(0:Int)≤(k:Int):=Int.natCast_nonneg _
   have hk1:(k:Int) < (n:Int):=by omega
   go_wp2_with fail
   refine (HK.out k hlt wr HB.out HI.out).mono ?_
   rintro e w2 ⟨rfl,hb2,hi2⟩
   have hnF:¬ F w.heap.size:=fun h=>absurd (HFF.out _ h) (by omega)
   have d0:w2.cell? ⟨w.heap.size,0,I⟩=Z (U sb):=by rw [hb2.cell ⟨w.heap.size,0,I⟩ hz hnF]; exact c0
   have d1:w2.cell? ⟨w.heap.size,1,I⟩=Z (V sa sn sc):=by rw [hb2.cell ⟨w.heap.size,1,I⟩ hz hnF]; exact c1
   have HB2:Hid (Qae F w w2):=HB.out.trans hb2 (fun _ _ h=>h)
   have HI2:=Qaa hi2
   have hz2:w.heap.size < w2.heap.size:=Nat.lt_of_lt_of_le hz hb2.size
   clear hb2 c0 c1 ck ek hi2
   cases hr:rb k with
   | true =>
    have HR:=Qaa hr
    clear hr
    go_wp2
    exact ⟨⟨k+1,by omega,by go_num,show Qkf rb (k+1)=true by simp [Qkf,HA.out,HR.out],HB2,HI2,hz2,d0,d1⟩,by simp [intOf]; omega⟩
   | false =>
    have HR:=Qaa hr
    clear hr
    go_wp2
    go_ret
    have hfa:=Qkb rb k HR.out n hlt
    exact ⟨Qa8 hfa.symm,HB2.out,fun h=>by rw [hfa] at h; cases h⟩
  ·have hkn:k=n:=by omega
   subst hkn
   go_wp2
   go_ret
   exact ⟨Qa8 HA.out.symm,HB.out,fun _=>HI.out⟩
def Qq5 (f:Nat→Nat)(k i:Nat):Int:=((Qca f (4 * i) (min 4 (k - 4 * i)):Nat):Int)
def Qgw (f:Nat→Nat)(n k:Nat):List Int:=(List.range n).map (Qq5 f k)
theorem Qe9 (f:Nat→Nat)(n k:Nat):(Qgw f n k).length=n:=by simp [Qgw]
theorem Qrq (f:Nat→Nat)(n:Nat):Qgw f n 0=List.replicate n 0:=by
 apply List.ext_getElem?
 intro i
 by_cases hi:i < n
 ·simp [Qgw,Qq5,hi,Qca]
 ·simp [Qgw,hi]
theorem Qq4 (f:Nat→Nat)(n j q:Nat)(hq:q < 4):Qgw f n (4 * j+q+1)=(Qgw f n (4 * j+q)).set j ((Qca f (4 * j) (q+1):Nat):Int):=by
 apply List.ext_getElem?
 intro i
 by_cases hi:i < n
 ·rw [List.getElem?_set]
  by_cases e:j=i
  ·subst e
   simp only [Qe9,hi,if_true]
   simp [Qgw,Qq5,hi]
   rw [show min 4 (4 * j+q+1 - 4 * j)=q+1 from by omega]
  ·rw [if_neg e]
   simp only [Qgw,Qq5,List.getElem?_map,List.getElem?_range hi,Option.map_some]
   rw [show min 4 (4 * j+q+1 - 4 * i)=min 4 (4 * j+q - 4 * i) from by omega]
 ·rw [List.getElem?_eq_none (by rw [Qe9]; omega),List.getElem?_eq_none (by rw [List.length_set,Qe9]; omega)]
theorem Quk (f:Nat→Nat)(n j q:Nat)(hq:q < 4)(hj:j < n):(Qgw f n (4 * j+q))[j]?=Z ((Qca f (4 * j) q:Nat):Int):=by
 simp [Qgw,Qq5,hj]
 rw [show min 4 q=q from by omega]
theorem Qvh (f:Nat→Nat)(n:Nat):Qgw f n (4 * n)=Qcm f 0 n:=by
 apply List.ext_getElem?
 intro i
 by_cases hi:i < n
 ·simp [Qgw,Qq5,Qcm,hi]
  rw [show min 4 (4 * n - 4 * i)=4 from by omega,Qt2]
  rw [Qf0 f (fun q=>f (4 * i+q)) (4 * i) 0 4 (fun q _=>by show f (4 * i+q)=f (4 * i+(0+q)); rw [Nat.zero_add])]
 ·rw [List.getElem?_eq_none (by rw [Qe9]; omega),List.getElem?_eq_none (by rw [Qcf]; omega)]
theorem Jci (f:Nat→Nat)(j q:Nat)(hq:q < 4)(hf:∀ i,i < 4→f (j+i) < 256):bits .or R ((Qca f j q:Nat):Int) ((f (j+q):Int) * 2 ^ (8 * (3 - q)))=((Qca f j (q+1):Nat):Int)∧f (j+q) * 2 ^ (8 * (3 - q)) < 4294967296:=by
 have hfq:=hf q hq
 have hlt:f (j+q) * 2 ^ (8 * (3 - q)) < 4294967296:=by
  have h1:f (j+q) * 2 ^ (8 * (3 - q)) < 256 * 2 ^ (8 * (3 - q)):=Nat.mul_lt_mul_of_pos_right hfq (Nat.two_pow_pos _)
  have h2:2 ^ (8 * (3 - q))≤2 ^ 24:=Nat.pow_le_pow_right (by omega) (by omega)
  simp only [Nat.reducePow] at h2
  omega
 have e2:(f (j+q):Int) * 2 ^ (8 * (3 - q))=((f (j+q) * 2 ^ (8 * (3 - q)):Nat):Int):=by simp
 have hx:=Qd4 f j q (by omega) (fun i hi=>hf i (by omega))
 refine ⟨?_,hlt⟩
 rw [e2,(bits_nat R 32 (by decide) (fun n h0 h1=>by rw [IntKind.wrap_i64]; simp only [Int.reducePow] at h1; omega) _ _ (by simpa using hx) (by simpa using hlt)).2,Qme f j q hq hfq]
theorem Qho (n:Nat)(hn:n≤100000)(w:World):(Instr.makeSlice 86 (D R (n:Int)) (D R (n:Int))).run K w =
  .ok (V (Z ⟨w.heap.size,0,I⟩) n n) (w.alloc (.cells (Qbi (List.replicate n 0)).toArray 3)):=by
 obtain ⟨i0,hi0,hz0,hz1,hz2⟩:=Qcz Tryz.infoInt
 have:=run_make (P:=K) w 86 3 i0 _ Tryz.underlying86 hi0 hz0 R R (n:Int) (n:Int) (by omega) (Int.le_refl _) (by rw [hz2]; omega) (by omega)
 simp only [Int.toNat_natCast,hz1,Value.cells,Nat.mul_one] at this
 rw [this]
 congr 3
 apply Array.ext_getElem?
 intro k
 by_cases hk:k < n
 ·simp [madeCells,Qbi,hk,Nat.mod_one]
 ·simp [madeCells,Qbi,hk]
theorem Qqo (w:World)(n:Nat)(l:List Int)(hl:l.length=n)(hn:n≤100000):(w.alloc (.cells (Qbi l).toArray 3)).ownsRow w.heap.size 3 1 (V (Z ⟨w.heap.size,0,I⟩) n n) n (Qbi l) :=
 ⟨by rw [Qfw]; omega,.inr ⟨w.heap.size,n,_,rfl,J _,by unfold World.alloc; exact Array.getElem?_push_size,J _,by unfold maxLen; omega,by simp [Qfw,hl],by rw [Nat.mul_one,← hl,← Qfw l,List.take_length]⟩⟩
theorem Qsa (l:List Int)(j:Nat)(z:Int):Qbi (l.set j z)=(Qbi l).set j (D R z):=by simp [Qbi,List.map_set]
theorem Qn9 (b o n c:Nat)(f:Nat→Nat)(w:World)(hn:n≤255)(hn0:0 < n)(hf:∀ i,i < 4 * n→f i < 256)(hcell:∀ i,i < 4 * n→w.cell? ⟨b,o+i,I⟩=Z (D .u8 (f i:Int))) :
  Calls K 159 #[V (Z ⟨b,o,I⟩) (4 * n) c] w fun e w'=>e=E (V (Z ⟨w.heap.size,0,I⟩) n n)∧w'.ownsRow w.heap.size 3 1 (V (Z ⟨w.heap.size,0,I⟩) n n) n (Qbi (Qcm f 0 n))∧Below w.heap.size w w':=by
 have HC:=Qaa hcell
 have HF:=Qaa hf
 clear hcell hf
 have hmk:=fun w=>Qho n (by omega) w
 have HO0:Hid ((w.alloc (.cells (Qbi (List.replicate n 0)).toArray 3)).ownsRow w.heap.size 3 1 (V (Z ⟨w.heap.size,0,I⟩) n n) n (Qbi (Qgw f n 0))):=by
  show World.ownsRow _ _ _ _ _ _ _
  rw [Qrq]; exact Qqo w n _ (by simp) (by omega)
 generalize hm:4 * n=m at *
 have hquo:Int.tdiv (m:Int) 4=(n:Int):=by rw [Int.tdiv_eq_ediv_of_nonneg (by omega)]; omega
 have HM:=Qaa hm
 have hmb:m≤1020:=by omega
 clear hm
 go_enter Tryz.func159,Tryz.ntmps159
 go_wp2
 go_loopw [12] (fun i wq=>∃ k:Nat,k≤m∧i=D R k∧Hid (wq.ownsRow w.heap.size 3 1 (V (Z ⟨w.heap.size,0,I⟩) n n) n (Qbi (Qgw f n k)))∧Hid (Below w.heap.size w wq)) (fun i _=>m - (intOf i).toNat)
 case atStart=>exact ⟨0,Nat.zero_le _,rfl,HO0,(Y _ _).alloc (J _) _⟩
 case round =>
  obtain ⟨k,hk,rfl,HO,HB⟩:=hrel
  clear HO0
  by_cases hlt:k < m
  ·have ck:wr.cell? ⟨b,o+k,I⟩=Z (D .u8 (f k:Int)):=by
    rw [HB.out.cell (p:=⟨b,o+k,I⟩) (Q w _ (HC.out k hlt))]
    exact HC.out k hlt
   obtain ⟨j,q,hq4,hjq⟩:∃ j q,q < 4∧k=4 * j+q:=⟨k / 4,k % 4,by omega,by omega⟩
   have hjn:j < n:=by have:=HM.out; omega
   have hj4:Int.tdiv (k:Int) 4=(j:Int):=by rw [Int.tdiv_eq_ediv_of_nonneg (by omega)]; omega
   have hq5:Int.tmod (k:Int) 4=(q:Int):=by rw [Int.tmod_eq_emod_of_nonneg (by omega)]; omega
   have hcj:wr.cell? ⟨w.heap.size,j,I⟩=Z (D R ((Qca f (4 * j) q:Nat):Int)):=by
    rw [HO.out.cellAt j (by rw [Nat.mul_one]; exact hjn),hjq]
    exact Qk6 _ j _ (Quk f n j q hq4 hjn)
   have hzj:wr.frozen? ⟨w.heap.size,j,I⟩=false:=HO.out.frozenAt j
   obtain ⟨hor,hlo⟩:=Jci f (4 * j) q hq4 (fun i hi=>HF.out (4 * j+i) (by have:=HM.out; omega))
   have hup:=Qd4 f (4 * j) q (by omega) (fun i hi=>HF.out (4 * j+i) (by have:=HM.out; omega))
   have hst:=HO.out.stored j (D R ((Qca f (4 * j) (q+1):Nat):Int))
   have HO2:Hid ((wr.setCell ⟨w.heap.size,j,I⟩ (D R ((Qca f (4 * j) (q+1):Nat):Int))).ownsRow w.heap.size 3 1 (V (Z ⟨w.heap.size,0,I⟩) n n) n (Qbi (Qgw f n (k+1)))):=by
    show World.ownsRow _ _ _ _ _ _ _
    rw [hjq,Qq4 f n j q hq4,Qsa,← hjq]; exact hst.1
   have HB2:Hid (Below w.heap.size w (wr.setCell ⟨w.heap.size,j,I⟩ (D R ((Qca f (4 * j) (q+1):Nat):Int)))):=HB.out.setCell (J _) _
   rw [← hjq] at hor hlo
   have HFK:=HF.out k hlt
   have HOR:=Qaa hor
   have HLO:=Qaa hlo
   have HUP:=Qaa hup
   clear hst hor hlo hup hjq
   generalize Qca f (4 * j) (q+1)=x2 at *
   generalize Qca f (4 * j) q=x1 at *
   generalize f k=y at *
   have hk0:(0:Int)≤(k:Int):=Int.natCast_nonneg _
   have hk1:(k:Int) < (m:Int):=by omega
   have hjn2:(j:Int) < (n:Int):=by omega
   have hj0:(0:Int)≤(j:Int):=Int.natCast_nonneg _
   have wj:IntKind.i64.wrap (j:Int)=(j:Int):=by rw [IntKind.wrap_i64]; omega
   have wy8:IntKind.i64.wrap (y:Int)=(y:Int):=by rw [IntKind.wrap_i64]; omega
   have hqq:8 * (3 - q) < 64:=by omega
   generalize hqe:8 * (3 - q)=qq at *
   have wy:IntKind.i64.wrap ((y:Int) * 2 ^ qq)=(y:Int) * 2 ^ qq:=by
    have e2:(y:Int) * 2 ^ qq=((y * 2 ^ qq:Nat):Int):=by simp
    have:=HLO.out
    rw [e2,IntKind.wrap_i64]
    generalize y * 2 ^ qq=t at *
    omega
   have hz1:w.heap.size < wr.heap.size:=by have:=Q wr _ hcj; simpa using this
   go_wp2_with fail
   go_region_with (go_at_call 164; refine (Qo3 q _ hq4).mono ?_; rw [hqe]; rintro e w9 ⟨rfl,rfl⟩)
   all_goals rw [HOR.out]
   all_goals go_wp2
   all_goals exact ⟨⟨k+1,by omega,by go_num,HO2.out.drew,HB2.out.drew⟩,by simp [intOf]; omega⟩
  ·have hkm:k=4 * n:=by have:=HM.out; omega
   subst hkm
   rw [Qvh] at HO
   go_wp2
   go_ret
   exact ⟨rfl,HO.out,HB.out⟩
theorem Qgf (a:Option Addr)(c:Nat)(f:Nat→Nat)(w:World) :
  Calls K 159 #[V a 0 c] w fun e w'=>e=E (V (Z ⟨w.heap.size,0,I⟩) 0 0)∧w'.ownsRow w.heap.size 3 1 (V (Z ⟨w.heap.size,0,I⟩) 0 0) 0 (Qbi (Qcm f 0 0))∧Below w.heap.size w w':=by
 have hmk:=fun w=>Qho 0 (by omega) w
 simp only [Int.ofNat_zero] at hmk
 have HO0:Hid ((w.alloc (.cells (Qbi (List.replicate 0 0)).toArray 3)).ownsRow w.heap.size 3 1 (V (Z ⟨w.heap.size,0,I⟩) 0 0) 0 (Qbi (Qcm f 0 0))):=Qqo w 0 _ (by simp) (by omega)
 go_enter Tryz.func159,Tryz.ntmps159
 go_wp2
 go_loop [12] (fun i=>i=D R 0) (fun i=>0 - (intOf i).toNat)
 case atStart=>exact rfl
 case round =>
  obtain rfl:=hrel
  go_wp2
  go_ret
  exact ⟨rfl,HO0.out,(Y _ _).alloc (J _) _⟩
theorem Qop (b o n c:Nat)(f:Nat→Nat)(w:World)(hn:n≤255)(hf:∀ i,i < 4 * n→f i < 256)(hcell:∀ i,i < 4 * n→w.cell? ⟨b,o+i,I⟩=Z (D .u8 (f i:Int))) :
  Calls K 159 #[V (Z ⟨b,o,I⟩) (4 * n) c] w fun e w'=>e=E (V (Z ⟨w.heap.size,0,I⟩) n n)∧w'.ownsRow w.heap.size 3 1 (V (Z ⟨w.heap.size,0,I⟩) n n) n (Qbi (Qcm f 0 n))∧Below w.heap.size w w':=by
 by_cases h0:n=0
 ·subst h0; exact Qgf _ c f w
 ·exact Qn9 b o n c f w hn (by omega) hf hcell
theorem Qdt {w:World}{B e size n g c X:Nat}{xs:List Value} (h:w.ownsRow B e size (V (Z ⟨g,0,I⟩) n c) n xs) (hne:g≠X) (j:Nat) (u:Value):(w.setCell ⟨X,j,I⟩ u).ownsRow B e size (V (Z ⟨g,0,I⟩) n c) n xs:=by
 refine ⟨h.1,?_⟩
 rcases h.2 with hh | ⟨g',cap,cur,ev,hg,hc,rest⟩
 ·exact .inl hh
 ·simp only [Value.slice.injEq,Option.some.injEq,Addr.mk.injEq,and_true,true_and] at ev
  obtain ⟨rfl,rfl⟩:=ev
  refine .inr ⟨g,_,cur,rfl,hg,?_,rest⟩
  rw [Qbk w X j _ g hne]
  exact hc
theorem Qi0 (f:Nat→Nat)(j n:Nat):Qcm (fun i=>f (j+i)) 0 n=Qcm f j n:=by
 simp [Qcm,Nat.add_assoc]
theorem Qm4 (a:Option Addr)(m c:Nat)(w:World)(hm:m < 2) :
  Calls K 145 #[V a m c] w fun e w'=>e=E (.tuple #[.agg #[U false,V I 0 0],V I 0 0,U false])∧Below w.heap.size w w':=by
 have h2:(m:Int) < 2:=by omega
 go_enter Tryz.func145,Tryz.ntmps145
 go_wp2
 exact bodyPost_ret (v:=.tuple #[.agg #[U false,V I 0 0],V I 0 0,U false]) (by simp [results,Tryz.results145,go_sem]) rfl ⟨rfl,(Y _ _).alloc (J _) _⟩
theorem Quh (b o m c k n:Nat)(w:World)(hm:2≤m)(hmc:m≤c)(hm2:m≤100000)(hk:k < 256)(hn:n < 256)(h0:w.cell? ⟨b,o,I⟩=Z (D .u8 (k:Int)))(h1:w.cell? ⟨b,o+1,I⟩=Z (D .u8 (n:Int)))(hno:¬ ((k=1∨k=2)∧2+4 * n≤m)) :
  Calls K 145 #[V (Z ⟨b,o,I⟩) m c] w fun e w'=>e=E (.tuple #[.agg #[U false,V I 0 0],V I 0 0,U false])∧Below w.heap.size w w':=by
 have hlt:=Q w _ h0
 simp only at hlt
 have m0:(0:Int) < (m:Int):=by omega
 have m1:(1:Int) < (m:Int):=by omega
 have m2:(2:Int)≤(m:Int):=by omega
 have d2:decide ((m:Int) < 2)=false:=decide_eq_false (by omega)
 have m3:(m:Int)≤(c:Int):=by omega
 by_cases hk1:k=1
 ·subst hk1
  have e4:((m - 2:Nat):Int) < 4 * (n:Int):=by omega
  clear hno
  go_enter Tryz.func145,Tryz.ntmps145
  go_wp2_with fail
  go_region
  go_wp2
  all_goals exact bodyPost_ret (v:=.tuple #[.agg #[U false,V I 0 0],V I 0 0,U false]) (by simp [results,Tryz.results145,go_sem]) rfl ⟨rfl,((Y _ _).alloc (J _) _).drew⟩
 ·by_cases hk2:k=2
  ·subst hk2
   have e4:((m - 2:Nat):Int) < 4 * (n:Int):=by omega
   clear hno
   go_enter Tryz.func145,Tryz.ntmps145
   go_wp2_with fail
   go_region
   go_wp2
   all_goals exact bodyPost_ret (v:=.tuple #[.agg #[U false,V I 0 0],V I 0 0,U false]) (by simp [results,Tryz.results145,go_sem]) rfl ⟨rfl,((Y _ _).alloc (J _) _).drew⟩
  ·have e1:((k:Int) != 1)=true:=by simp; omega
   have e2:((k:Int) != 2)=true:=by simp; omega
   clear hno
   go_enter Tryz.func145,Tryz.ntmps145
   go_wp2_with fail
   go_region
   go_wp2
   all_goals exact bodyPost_ret (v:=.tuple #[.agg #[U false,V I 0 0],V I 0 0,U false]) (by simp [results,Tryz.results145,go_sem]) rfl ⟨rfl,((Y _ _).alloc (J _) _).drew⟩
theorem Qrh (b o m c k n:Nat)(f:Nat→Nat)(w:World)(hmc:m≤c)(hm2:m≤100000)(hk:k=1∨k=2)(hn:n < 256)(hnm:2+4 * n≤m)(hc2:¬ c=2)(hf:∀ i,i < 4 * n→f i < 256)(h0:w.cell? ⟨b,o,I⟩=Z (D .u8 (k:Int)))(h1:w.cell? ⟨b,o+1,I⟩=Z (D .u8 (n:Int)))(hcell:∀ i,i < 4 * n→w.cell? ⟨b,o+2+i,I⟩=Z (D .u8 (f i:Int))) :
  Calls K 145 #[V (Z ⟨b,o,I⟩) m c] w fun e w'=>∃ g a' c',e=E (.tuple #[.agg #[U (decide (k=1)),V (Z ⟨g,0,I⟩) n n],V a' (m - (2+4 * n)) c',U true])∧m - (2+4 * n)≤c'∧(2+4 * n < m→a'=Z ⟨b,o+(2+4 * n),I⟩)∧w'.ownsRow w.heap.size 3 1 (V (Z ⟨g,0,I⟩) n n) n (Qbi (Qcm f 0 n))∧Below w.heap.size w w':=by
 have hlt:=Q w _ h0
 simp only at hlt
 have HN:Hid (∀ w1:World,Below w.heap.size w w1→Calls K 159 #[V (Z ⟨b,o+2,I⟩) (4 * n) (c - 2)] w1 fun e w'=>e=E (V (Z ⟨w1.heap.size,0,I⟩) n n)∧w'.ownsRow w1.heap.size 3 1 (V (Z ⟨w1.heap.size,0,I⟩) n n) n (Qbi (Qcm f 0 n))∧Below w1.heap.size w1 w'):=fun w1 hb1 =>
  Qop b (o+2) n (c - 2) f w1 (by omega) hf (fun i hi=>by rw [hb1.cell (p:=⟨b,o+2+i,I⟩) hlt]; exact hcell i hi)
 have m0:(0:Int) < (m:Int):=by omega
 have m1:(1:Int) < (m:Int):=by omega
 have m2:(2:Int)≤(m:Int):=by omega
 have d2:decide ((m:Int) < 2)=false:=decide_eq_false (by omega)
 have m3:(m:Int)≤(c:Int):=by omega
 have m5:((m - 2:Nat):Int)≤((c - 2:Nat):Int):=by omega
 have HA:Hid (∀ a',a'=(if c - 2=4 * n then Z (⟨b,o+2,I⟩:Addr) else Z ⟨b,o+2+4 * n,I⟩)→2+4 * n < m→a'=Z ⟨b,o+(2+4 * n),I⟩):=fun a' ha hlt9=>by rw [ha,if_neg (by omega),Nat.add_assoc]
 have HE:Hid (m - 2 - 4 * n=m - (2+4 * n)∧m - (2+4 * n)≤c - 2 - 4 * n):=⟨by omega,by omega⟩
 clear hcell hf
 generalize hs:4 * n=s at *
 have hs2:(4:Int) * (n:Int)=(s:Int):=by omega
 have m6:(s:Int)≤((m - 2:Nat):Int):=by omega
 have m7:(s:Int)≤((c - 2:Nat):Int):=by omega
 have m8:decide (((m - 2:Nat):Int) < (s:Int))=false:=decide_eq_false (by omega)
 have ws:IntKind.i64.wrap (s:Int)=(s:Int):=by rw [IntKind.wrap_i64]; omega
 have HS:=Qaa hs
 clear hs
 rcases hk with rfl | rfl
 ·by_cases hcs:c - 2=s
  ·rw [hcs] at HN HE HA
   go_enter Tryz.func145,Tryz.ntmps145
   go_wp2_with fail
   go_region
   go_wp2_with fail
   go_region_with (go_at_call 159; refine (HN.out _ (((Y _ _).alloc (J _) _).drew.drew)).mono ?_; rintro e w2 ⟨rfl,ho,hb⟩; have r0:w2.cell? ⟨w.heap.size,0,I⟩=Z (U false):=(by rw [hb.cell (p:=⟨w.heap.size,0,I⟩) (by simp)]; simp [go_sem]); have r1:w2.cell? ⟨w.heap.size,1,I⟩=Z (V I 0 0):=(by rw [hb.cell (p:=⟨w.heap.size,1,I⟩) (by simp)]; simp [go_sem]); have z0:w2.frozen? ⟨w.heap.size,0,I⟩=false:=(by rw [hb.frozen (p:=⟨w.heap.size,0,I⟩) (by simp)]; simp [go_sem]); have z1:w2.frozen? ⟨w.heap.size,1,I⟩=false:=(by rw [hb.frozen (p:=⟨w.heap.size,1,I⟩) (by simp)]; simp [go_sem]); have hz:w.heap.size < w2.heap.size:=(by have:=hb.size; simp at this; omega); have HB:=Qaa hb; have HO:=Qaa ho; clear hb ho)
   all_goals go_wp2
   all_goals refine bodyPost_ret (v:=.tuple #[.agg #[U true,V (Z ⟨w.heap.size+1,0,I⟩) n n],V (Z ⟨b,o+2,I⟩) (m - 2 - s) (s - s),U true]) (by simp [results,Tryz.results145,go_sem,r0,r1,Act.put]) rfl ⟨w.heap.size+1,(Z ⟨b,o+2,I⟩),_,by rw [HE.out.1]; rfl,by have:=HE.out.2; omega,HA.out _ (by simp),?_,?_⟩
   ·exact Qdt (g:=w.heap.size+1) (Qdt (g:=w.heap.size+1) (Qan (B:=w.heap.size+1) (by simpa using HO.out) (by omega)) (by omega) _ _) (by omega) _ _
   ·exact ((((((Y _ _).alloc (J _) _).drew.drew).trans (HB.out.mono (by simp))).setCell (J _) _).setCell (J _) _)
  ·have hcs2:decide (c - 2=s)=false:=decide_eq_false hcs
   go_enter Tryz.func145,Tryz.ntmps145
   go_wp2_with fail
   go_region
   go_wp2_with fail
   go_region_with (go_at_call 159; refine (HN.out _ (((Y _ _).alloc (J _) _).drew.drew)).mono ?_; rintro e w2 ⟨rfl,ho,hb⟩; have r0:w2.cell? ⟨w.heap.size,0,I⟩=Z (U false):=(by rw [hb.cell (p:=⟨w.heap.size,0,I⟩) (by simp)]; simp [go_sem]); have r1:w2.cell? ⟨w.heap.size,1,I⟩=Z (V I 0 0):=(by rw [hb.cell (p:=⟨w.heap.size,1,I⟩) (by simp)]; simp [go_sem]); have z0:w2.frozen? ⟨w.heap.size,0,I⟩=false:=(by rw [hb.frozen (p:=⟨w.heap.size,0,I⟩) (by simp)]; simp [go_sem]); have z1:w2.frozen? ⟨w.heap.size,1,I⟩=false:=(by rw [hb.frozen (p:=⟨w.heap.size,1,I⟩) (by simp)]; simp [go_sem]); have hz:w.heap.size < w2.heap.size:=(by have:=hb.size; simp at this; omega); have HB:=Qaa hb; have HO:=Qaa ho; clear hb ho)
   all_goals go_wp2
   all_goals refine bodyPost_ret (v:=.tuple #[.agg #[U true,V (Z ⟨w.heap.size+1,0,I⟩) n n],V (Z ⟨b,o+2+s,I⟩) (m - 2 - s) ((c - 2) - s),U true]) (by simp [results,Tryz.results145,go_sem,r0,r1,Act.put]) rfl ⟨w.heap.size+1,(Z ⟨b,o+2+s,I⟩),_,by rw [HE.out.1]; rfl,by have:=HE.out.2; omega,HA.out _ (by simp [hcs]),?_,?_⟩
   ·exact Qdt (g:=w.heap.size+1) (Qdt (g:=w.heap.size+1) (Qan (B:=w.heap.size+1) (by simpa using HO.out) (by omega)) (by omega) _ _) (by omega) _ _
   ·exact ((((((Y _ _).alloc (J _) _).drew.drew).trans (HB.out.mono (by simp))).setCell (J _) _).setCell (J _) _)
 ·by_cases hcs:c - 2=s
  ·rw [hcs] at HN HE HA
   go_enter Tryz.func145,Tryz.ntmps145
   go_wp2_with fail
   go_region
   go_wp2_with fail
   go_region_with (go_at_call 159; refine (HN.out _ (((Y _ _).alloc (J _) _).drew.drew)).mono ?_; rintro e w2 ⟨rfl,ho,hb⟩; have r0:w2.cell? ⟨w.heap.size,0,I⟩=Z (U false):=(by rw [hb.cell (p:=⟨w.heap.size,0,I⟩) (by simp)]; simp [go_sem]); have r1:w2.cell? ⟨w.heap.size,1,I⟩=Z (V I 0 0):=(by rw [hb.cell (p:=⟨w.heap.size,1,I⟩) (by simp)]; simp [go_sem]); have z0:w2.frozen? ⟨w.heap.size,0,I⟩=false:=(by rw [hb.frozen (p:=⟨w.heap.size,0,I⟩) (by simp)]; simp [go_sem]); have z1:w2.frozen? ⟨w.heap.size,1,I⟩=false:=(by rw [hb.frozen (p:=⟨w.heap.size,1,I⟩) (by simp)]; simp [go_sem]); have hz:w.heap.size < w2.heap.size:=(by have:=hb.size; simp at this; omega); have HB:=Qaa hb; have HO:=Qaa ho; clear hb ho)
   all_goals go_wp2
   all_goals refine bodyPost_ret (v:=.tuple #[.agg #[U false,V (Z ⟨w.heap.size+1,0,I⟩) n n],V (Z ⟨b,o+2,I⟩) (m - 2 - s) (s - s),U true]) (by simp [results,Tryz.results145,go_sem,r0,r1,Act.put]) rfl ⟨w.heap.size+1,(Z ⟨b,o+2,I⟩),_,by rw [HE.out.1]; rfl,by have:=HE.out.2; omega,HA.out _ (by simp),?_,?_⟩
   ·exact Qdt (g:=w.heap.size+1) (Qdt (g:=w.heap.size+1) (Qan (B:=w.heap.size+1) (by simpa using HO.out) (by omega)) (by omega) _ _) (by omega) _ _
   ·exact ((((((Y _ _).alloc (J _) _).drew.drew).trans (HB.out.mono (by simp))).setCell (J _) _).setCell (J _) _)
  ·have hcs2:decide (c - 2=s)=false:=decide_eq_false hcs
   go_enter Tryz.func145,Tryz.ntmps145
   go_wp2_with fail
   go_region
   go_wp2_with fail
   go_region_with (go_at_call 159; refine (HN.out _ (((Y _ _).alloc (J _) _).drew.drew)).mono ?_; rintro e w2 ⟨rfl,ho,hb⟩; have r0:w2.cell? ⟨w.heap.size,0,I⟩=Z (U false):=(by rw [hb.cell (p:=⟨w.heap.size,0,I⟩) (by simp)]; simp [go_sem]); have r1:w2.cell? ⟨w.heap.size,1,I⟩=Z (V I 0 0):=(by rw [hb.cell (p:=⟨w.heap.size,1,I⟩) (by simp)]; simp [go_sem]); have z0:w2.frozen? ⟨w.heap.size,0,I⟩=false:=(by rw [hb.frozen (p:=⟨w.heap.size,0,I⟩) (by simp)]; simp [go_sem]); have z1:w2.frozen? ⟨w.heap.size,1,I⟩=false:=(by rw [hb.frozen (p:=⟨w.heap.size,1,I⟩) (by simp)]; simp [go_sem]); have hz:w.heap.size < w2.heap.size:=(by have:=hb.size; simp at this; omega); have HB:=Qaa hb; have HO:=Qaa ho; clear hb ho)
   all_goals go_wp2
   all_goals refine bodyPost_ret (v:=.tuple #[.agg #[U false,V (Z ⟨w.heap.size+1,0,I⟩) n n],V (Z ⟨b,o+2+s,I⟩) (m - 2 - s) ((c - 2) - s),U true]) (by simp [results,Tryz.results145,go_sem,r0,r1,Act.put]) rfl ⟨w.heap.size+1,(Z ⟨b,o+2+s,I⟩),_,by rw [HE.out.1]; rfl,by have:=HE.out.2; omega,HA.out _ (by simp [hcs]),?_,?_⟩
   ·exact Qdt (g:=w.heap.size+1) (Qdt (g:=w.heap.size+1) (Qan (B:=w.heap.size+1) (by simpa using HO.out) (by omega)) (by omega) _ _) (by omega) _ _
   ·exact ((((((Y _ _).alloc (J _) _).drew.drew).trans (HB.out.mono (by simp))).setCell (J _) _).setCell (J _) _)
theorem Qr5 (b o k:Nat)(f:Nat→Nat)(w:World)(hk:k=1∨k=2)(h0:w.cell? ⟨b,o,I⟩=Z (D .u8 (k:Int)))(h1:w.cell? ⟨b,o+1,I⟩=Z (D .u8 0)) :
  Calls K 145 #[V (Z ⟨b,o,I⟩) 2 2] w fun e w'=>∃ g a' c',e=E (.tuple #[.agg #[U (decide (k=1)),V (Z ⟨g,0,I⟩) 0 0],V a' 0 c',U true])∧w'.ownsRow w.heap.size 3 1 (V (Z ⟨g,0,I⟩) 0 0) 0 (Qbi (Qcm f 0 0))∧Below w.heap.size w w':=by
 have hlt:=Q w _ h0
 simp only at hlt
 rcases hk with rfl | rfl
 ·go_enter Tryz.func145,Tryz.ntmps145
  go_wp2_with fail
  go_region
  go_wp2_with fail
  go_region_with (go_at_call 159; refine (Qgf _ 0 f _).mono ?_; rintro e w2 ⟨rfl,ho,hb⟩; have r0:w2.cell? ⟨w.heap.size,0,I⟩=Z (U false):=(by rw [hb.cell (p:=⟨w.heap.size,0,I⟩) (by simp)]; simp [go_sem]); have r1:w2.cell? ⟨w.heap.size,1,I⟩=Z (V I 0 0):=(by rw [hb.cell (p:=⟨w.heap.size,1,I⟩) (by simp)]; simp [go_sem]); have z0:w2.frozen? ⟨w.heap.size,0,I⟩=false:=(by rw [hb.frozen (p:=⟨w.heap.size,0,I⟩) (by simp)]; simp [go_sem]); have z1:w2.frozen? ⟨w.heap.size,1,I⟩=false:=(by rw [hb.frozen (p:=⟨w.heap.size,1,I⟩) (by simp)]; simp [go_sem]); have hz:w.heap.size < w2.heap.size:=(by have:=hb.size; simp at this; omega); have HB:=Qaa hb; have HO:=Qaa ho; clear hb ho)
  all_goals go_wp2
  all_goals refine bodyPost_ret (v:=.tuple #[.agg #[U true,V (Z ⟨w.heap.size+1,0,I⟩) 0 0],V (Z ⟨b,o,I⟩) 0 0,U true]) (by simp [results,Tryz.results145,go_sem,r0,r1,Act.put]) rfl ⟨w.heap.size+1,(Z ⟨b,o,I⟩),0,rfl,?_,?_⟩
  ·exact Qdt (g:=w.heap.size+1) (Qdt (g:=w.heap.size+1) (Qan (B:=w.heap.size+1) (by simpa using HO.out) (by omega)) (by omega) _ _) (by omega) _ _
  ·exact ((((((Y _ _).alloc (J _) _).drew.drew).trans (HB.out.mono (by simp))).setCell (J _) _).setCell (J _) _)
 ·go_enter Tryz.func145,Tryz.ntmps145
  go_wp2_with fail
  go_region
  go_wp2_with fail
  go_region_with (go_at_call 159; refine (Qgf _ 0 f _).mono ?_; rintro e w2 ⟨rfl,ho,hb⟩; have r0:w2.cell? ⟨w.heap.size,0,I⟩=Z (U false):=(by rw [hb.cell (p:=⟨w.heap.size,0,I⟩) (by simp)]; simp [go_sem]); have r1:w2.cell? ⟨w.heap.size,1,I⟩=Z (V I 0 0):=(by rw [hb.cell (p:=⟨w.heap.size,1,I⟩) (by simp)]; simp [go_sem]); have z0:w2.frozen? ⟨w.heap.size,0,I⟩=false:=(by rw [hb.frozen (p:=⟨w.heap.size,0,I⟩) (by simp)]; simp [go_sem]); have z1:w2.frozen? ⟨w.heap.size,1,I⟩=false:=(by rw [hb.frozen (p:=⟨w.heap.size,1,I⟩) (by simp)]; simp [go_sem]); have hz:w.heap.size < w2.heap.size:=(by have:=hb.size; simp at this; omega); have HB:=Qaa hb; have HO:=Qaa ho; clear hb ho)
  all_goals go_wp2
  all_goals refine bodyPost_ret (v:=.tuple #[.agg #[U false,V (Z ⟨w.heap.size+1,0,I⟩) 0 0],V (Z ⟨b,o,I⟩) 0 0,U true]) (by simp [results,Tryz.results145,go_sem,r0,r1,Act.put]) rfl ⟨w.heap.size+1,(Z ⟨b,o,I⟩),0,rfl,?_,?_⟩
  ·exact Qdt (g:=w.heap.size+1) (Qdt (g:=w.heap.size+1) (Qan (B:=w.heap.size+1) (by simpa using HO.out) (by omega)) (by omega) _ _) (by omega) _ _
  ·exact ((((((Y _ _).alloc (J _) _).drew.drew).trans (HB.out.mono (by simp))).setCell (J _) _).setCell (J _) _)
theorem Qqh {f:Nat→Nat}{len i:Nat} (h:Qja f len i=true):i+2≤len∧(f i=1∨f i=2)∧i+2+4 * f (i+1)≤len:=of_decide_eq_true h
theorem Qup (b off len i c:Nat)(f:Nat→Nat)(w:World)(hc:len - i≤c)(hl:len≤100000)(hf:∀ j,j < len→f j < 256)(hcell:∀ j,j < len→w.cell? ⟨b,off+j,I⟩=Z (D .u8 (f j:Int)))(hk:Qja f len i=true) :
  Calls K 145 #[V (Z ⟨b,off+i,I⟩) (len - i) c] w fun e w'=>∃ g a' c',e=E (.tuple #[.agg #[U (Qfd f i).1,V (Z ⟨g,0,I⟩) (f (i+1)) (f (i+1))],V a' (len - (i+2+4 * f (i+1))) c',U true])∧len - (i+2+4 * f (i+1))≤c'∧(i+2+4 * f (i+1) < len→a'=Z ⟨b,off+(i+2+4 * f (i+1)),I⟩)∧w'.ownsRow w.heap.size 3 1 (V (Z ⟨g,0,I⟩) (f (i+1)) (f (i+1))) (f (i+1)) (Qbi (Qfd f i).2)∧Below w.heap.size w w':=by
 obtain ⟨h1,h2,h3⟩:=Qqh hk
 have hn:=hf (i+1) (by omega)
 have c0:=hcell i (by omega)
 have c1:w.cell? ⟨b,off+i+1,I⟩=Z (D .u8 (f (i+1):Int)):=hcell (i+1) (by omega)
 by_cases hc2:c=2
 ·subst hc2
  have e1:len - i=2:=by omega
  have e2:f (i+1)=0:=by omega
  rw [e2] at c1
  rw [e1]
  refine (Qr5 b (off+i) (f i) (fun j=>f (i+2+j)) w h2 c0 c1).mono ?_
  rintro e w' ⟨g,a',c',rfl,ho,hb⟩
  refine ⟨g,a',c',?_,by omega,fun h=>absurd h (by omega),?_,hb⟩
  ·rw [e2,show len - (i+2+4 * 0)=0 from by omega]; rfl
  ·have e3:(Qfd f i).2=Qcm (fun j=>f (i+2+j)) 0 0:=by unfold Qfd; rw [e2,Qi0]
   rw [e3,e2]; exact ho
 ·refine (Qrh b (off+i) (len - i) c (f i) (f (i+1)) (fun j=>f (i+2+j)) w hc (by omega) h2 hn (by omega) hc2 (fun j hj=>hf (i+2+j) (by omega)) c0 c1 (fun j hj=>by
   have:=hcell (i+2+j) (by omega)
   rwa [show off+(i+2+j)=off+i+2+j from by omega] at this)).mono ?_
  rintro e w' ⟨g,a',c',rfl,hc',ha',ho,hb⟩
  refine ⟨g,a',c',?_,by omega,fun h=>by rw [ha' (by omega)]; congr 2; omega,?_,hb⟩
  ·rw [show len - i - (2+4 * f (i+1))=len - (i+2+4 * f (i+1)) from by omega]; rfl
  ·have e3:(Qfd f i).2=Qcm (fun j=>f (i+2+j)) 0 (f (i+1)):=by unfold Qfd; rw [Qi0]
   rw [e3]; exact ho
theorem Qrc (b off len i c:Nat)(f:Nat→Nat)(w:World)(hi:i < len)(hc:len - i≤c)(hl:len≤100000)(hf:∀ j,j < len→f j < 256)(hcell:∀ j,j < len→w.cell? ⟨b,off+j,I⟩=Z (D .u8 (f j:Int)))(hk:Qja f len i=false) :
  Calls K 145 #[V (Z ⟨b,off+i,I⟩) (len - i) c] w fun e w'=>e=E (.tuple #[.agg #[U false,V I 0 0],V I 0 0,U false])∧Below w.heap.size w w':=by
 have hno:=of_decide_eq_false hk
 by_cases h2:i+2≤len
 ·exact Quh b (off+i) (len - i) c (f i) (f (i+1)) w (by omega) hc (by omega) (hf i hi) (hf (i+1) (by omega)) (hcell i hi) (hcell (i+1) (by omega)) (fun h=>hno ⟨h2,h.1,by omega⟩)
 ·exact Qm4 _ (len - i) c w (by omega)
