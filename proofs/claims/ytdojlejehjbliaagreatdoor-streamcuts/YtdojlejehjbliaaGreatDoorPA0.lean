import Derived.Test.YtdojlejehjbliaaGreatDoorRows
import Derived.WalkKit
import Derived.WalkLawsBesides
import Derived.Below
import Derived.WalkSpells
import Derived.OpenShut
import Derived.OwnWalk
import Derived.Deep.MidRow
import Derived.Deep.AppendLies
import Derived.Laws.MakeOwn
import Derived.Laws.CopyRow
namespace Go.Proofs.YtdojlejehjbliaaGreatDoor
set_option maxHeartbeats 4000000
open _root_.Option renaming some → I,none → V
open _root_.Go.World renaming block_lt_of_cell? → J
open _root_.Go.Proofs.Tryz renaming prog → Z
open _root_.Nat renaming lt_of_lt_of_le → Y
open _root_.Go.Value renaming slice → U
open Go.RowKit
def tk (ops:Array Oper)(m:Array Bool)(k:Nat):Bool:=Region.free .any ops m k&&(Region.ready .any ops m).contains k
theorem tk1 {ops:Array Oper}{m:Array Bool}{k:Nat}(h:tk ops m k=true):Region.free .any ops m k=true:=(Bool.and_eq_true_iff.1 h).1
theorem tk2 {ops:Array Oper}{m:Array Bool}{k:Nat}(h:tk ops m k=true):(Region.ready .any ops m).contains k=true:=(Bool.and_eq_true_iff.1 h).2
def opk (ops:Array Oper)(i:Nat)(d:Option Tmp)(o:Op):Prop:=∃ ty po af,ops[i]?=I {dst:=d,op:=o,type:=ty,pos:=po,after:=af,guard:=V}
theorem opi {ops:Array Oper}{i:Nat}{d:Option Tmp}{o:Op}{ty:TypeId}{po:String}{af:Array Edge}(h:ops[i]?=I {dst:=d,op:=o,type:=ty,pos:=po,after:=af,guard:=V}):opk ops i d o:=⟨ty,po,af,h⟩
set_option maxRecDepth 100000
theorem Qaa {p:Prop}(h:p):Hid p:=h
structure Qae (F:Nat→Prop) (w w':World):Prop where
 os:w'.os=w.os
 tape:w'.tape=w.tape
 output:w'.output=w.output
 size:w.heap.size≤w'.heap.size
 block:∀ k,k < w.heap.size→¬ F k→w'.heap[k]?=w.heap[k]?
theorem Qae.refl (F:Nat→Prop)(w:World):Qae F w w:=⟨rfl,rfl,rfl,Nat.le_refl _,fun _ _ _=>rfl⟩
theorem Qae.mono {F G:Nat→Prop}{w w':World} (h:Qae F w w') (hg:∀ k,k < w.heap.size→F k→G k):Qae G w w' :=
 ⟨h.os,h.tape,h.output,h.size,fun k hk hn=>h.block k hk fun hf=>hn (hg k hk hf)⟩
theorem Qae.trans {F G:Nat→Prop}{w w1 w2:World} (h:Qae F w w1) (k:Qae G w1 w2) (hg:∀ b,b < w.heap.size→G b→F b):Qae F w w2 :=
 ⟨k.os.trans h.os,k.tape.trans h.tape,k.output.trans h.output,Nat.le_trans h.size k.size,fun b hb hn=>by
  rw [k.block b (Y hb h.size) fun hgb=>hn (hg b hb hgb),h.block b hb hn]⟩
theorem Qae.alloc {F:Nat→Prop}{w w1:World} (h:Qae F w w1) (o:Obj):Qae F w (w1.alloc o) :=
 ⟨h.os,h.tape,h.output,by simp; exact Nat.le_succ_of_le h.size,fun k hk hn=>by
  have hk1:k < w1.heap.size:=Y hk h.size
  show (w1.heap.push o)[k]?=_
  rw [Array.getElem?_push,if_neg (by omega)]
  exact h.block k hk hn⟩
theorem Qae.drew {F:Nat→Prop}{w w1:World} (h:Qae F w w1):Qae F w w1.drew:=⟨h.os,h.tape,h.output,h.size,h.block⟩
theorem Qbk (w:World)(b o:Nat)(v:Value)(k:Nat)(hne:k≠b):(w.setCell ⟨b,o,V⟩ v).heap[k]?=w.heap[k]?:=by
 simp only [World.setCell,Array.getElem?_modify]
 rw [if_neg (Ne.symm hne)]
theorem Qhx (b:Nat):∀ (vs:List Value) (o:Nat) (w:World),(w.setCells b o vs).heap.size=w.heap.size
 | [],_,_=>rfl
 | v :: r,o,w=>by rw [World.setCells,Qhx b r (o+1) _]; simp
theorem Qae.setCell {F:Nat→Prop}{w w1:World} (h:Qae F w w1) (b o:Nat) (v:Value) (hb:F b∨w.heap.size≤b):Qae F w (w1.setCell ⟨b,o,V⟩ v) :=
 ⟨h.os,h.tape,h.output,by simpa using h.size,fun k hk hn=>by
  rw [Qbk w1 b o v k (fun e=>by subst e; rcases hb with hb | hb; exact hn hb; omega)]
  exact h.block k hk hn⟩
theorem Qae.setCells {F:Nat→Prop}{w w1:World} (h:Qae F w w1) (b o:Nat) (vs:List Value) (hb:F b∨w.heap.size≤b):Qae F w (w1.setCells b o vs):=by
 induction vs generalizing o w1 with
 | nil=>exact h
 | cons v r ih=>rw [World.setCells]; exact ih (h.setCell b o v hb) (o+1)
theorem Qae.grown {F:Nat→Prop}{w w1 w2:World}{row:Option Nat} (h:Qae F w w1) (hg:w1.grownBy w2 row) (hr:∀ b,row=I b→F b∨w.heap.size≤b):Qae F w w2 :=
 ⟨hg.os.trans h.os,hg.tape.trans h.tape,hg.output.trans h.output,Nat.le_trans h.size hg.size,fun k hk hn=>by
  rw [hg.block k (Y hk h.size) (fun e=>by rcases hr k e.symm with hf | hf; exact hn hf; omega)]
  exact h.block k hk hn⟩
theorem Qae.below {F:Nat→Prop}{w w':World} (h:Qae F w w') (B:Nat) (hB:B≤w.heap.size) (hF:∀ b,F b→B≤b):Below B w w' :=
 ⟨h.os,h.tape,h.output,h.size,fun k hk=>h.block k (by omega) fun hf=>by have:=hF k hf; omega⟩
theorem Qae.of_below {w w':World}(h:Below w.heap.size w w')(F:Nat→Prop):Qae F w w':=⟨h.os,h.tape,h.output,h.size,fun k hk _=>h.block k hk⟩
theorem Qae.cell {F:Nat→Prop}{w w':World} (h:Qae F w w') (a:Addr) (hb:a.block < w.heap.size) (hn:¬ F a.block):w'.cell? a=w.cell? a:=World.cell?_of_block (h.block _ hb hn)
def Qgi (f:Nat→Nat)(n:Nat):List Value:=(List.range n).map fun i=>Value.int .u8 (f i:Int)
theorem Qeo (f:Nat→Nat)(n:Nat):(Qgi f n).length=n:=by simp [Qgi]
theorem Qr3 (f:Nat→Nat)(n i:Nat)(h:i < n):(Qgi f n)[i]?=I (Value.int .u8 (f i:Int)):=by simp [Qgi,h]
theorem Qku (f:Nat→Nat)(n i:Nat)(h:i < (Qgi f n).length):(Qgi f n)[i]=Value.int .u8 (f i:Int):=by simp [Qgi]
def Qqz (w:World)(b n:Nat)(g:Nat→Nat→Nat):Prop :=
 b < w.heap.size∧∀ i,i < n→∀ j,j < 64→w.cell? ⟨b,i * 64+j,V⟩=I (.int .u8 (g i j:Int))∧w.frozen? ⟨b,i * 64+j,V⟩=false
theorem Qqz.range {w:World}{b n:Nat}{g:Nat→Nat→Nat} (h:Qqz w b n g) (i:Nat) (hi:i < n):w.rangeAt b (i * 64) (Qgi (g i) 64):=by
 intro j v hv
 have hj:j < 64:=by simpa [Qeo] using (List.getElem?_eq_some_iff.1 hv).1
 rw [Qr3 _ _ _ hj] at hv
 rw [(h.2 i hi j hj).1,hv]
theorem Qqz.of_block {w w':World}{b n:Nat}{g:Nat→Nat→Nat} (h:Qqz w b n g) (hs:w.heap.size≤w'.heap.size) (hb:w'.heap[b]?=w.heap[b]?):Qqz w' b n g :=
 ⟨Y h.1 hs,fun i hi j hj=>⟨by rw [World.cell?_of_block (w:=w) (by exact hb)]; exact (h.2 i hi j hj).1,by rw [World.frozen?_of_block (w:=w) (by exact hb)]; exact (h.2 i hi j hj).2⟩⟩
theorem Qqz.keeps {F:Nat→Prop}{w w':World}{b n:Nat}{g:Nat→Nat→Nat} (h:Qqz w b n g) (hk:Qae F w w') (hn:¬ F b):Qqz w' b n g :=
 h.of_block hk.size (hk.block b h.1 hn)
def Qta (g:Nat→Nat→Nat)(k m:Nat)(p:Nat→Nat):Nat→Nat→Nat:=fun i j=>if i=k∧j < m then p j else g i j
theorem Qqz.store {w:World}{b n:Nat}{g:Nat→Nat→Nat} (h:Qqz w b n g) (k:Nat) (hk:k < n) (m:Nat) (hm:m≤64) (p:Nat→Nat) :
  Qqz (w.setCells b (k * 64) (Qgi p m)) b n (Qta g k m p):=by
 refine ⟨by rw [Qhx]; exact h.1,fun i hi j hj=>⟨?_,by rw [World.frozen?_setCells]; exact (h.2 i hi j hj).2⟩⟩
 unfold Qta
 by_cases e:i=k∧j < m
 ·obtain ⟨rfl,hjm⟩:=e
  rw [if_pos ⟨rfl,hjm⟩,World.cell?_setCells_in b (Qgi p m) (i * 64) w (fun q hq=>by
   rw [Qeo] at hq
   rw [(h.2 i hi q (by omega)).1]; rfl) j (by rw [Qeo]; exact hjm),Qku]
 ·rw [if_neg e,World.cell?_setCells_out b (Qgi p m) (k * 64) w _ (fun _ _=>by
   rw [Qeo]
   show i * 64+j < k * 64∨k * 64+m≤i * 64+j
   by_cases h1:i=k
   ·subst h1; right; omega
   ·rcases Nat.lt_or_gt_of_ne h1 with h2 | h2
    ·left; omega
    ·right; omega)]
  exact (h.2 i hi j hj).1
theorem Qqz.alloc {w:World}{b n:Nat}{g:Nat→Nat→Nat} (h:Qqz w b n g) (o:Obj):Qqz (w.alloc o) b n g :=
 h.keeps (F:=fun _=>False) ((Qae.refl _ w).alloc o) (fun h=>h)
def Rw (w:World)(a:Option Addr)(len:Nat)(f:Nat→Nat):Prop :=
 len≤maxLen∧(0 < len→∃ b off,a=I ⟨b,off,V⟩∧∀ i,i < len→w.cell? ⟨b,off+i,V⟩=I (.int .u8 (f i:Int)))
theorem Rw.keeps {F:Nat→Prop}{w w':World}{a:Option Addr}{len:Nat}{f:Nat→Nat} (h:Rw w a len f) (hk:Qae F w w') (hn:∀ x,a=I x→0 < len→¬ F x.block):Rw w' a len f:=by
 refine ⟨h.1,fun hp=>?_⟩
 obtain ⟨b,off,rfl,hc⟩:=h.2 hp
 refine ⟨b,off,rfl,fun i hi=>?_⟩
 rw [hk.cell _ (J w _ (hc i hi)) (hn ⟨b,off,V⟩ rfl hp)]
 exact hc i hi
theorem Rw.below {w w':World}{a:Option Addr}{len:Nat}{f:Nat→Nat} (h:Rw w a len f) (hk:Below w.heap.size w w'):Rw w' a len f :=
 h.keeps (F:=fun _=>False) (Qae.of_below hk _) (fun _ _ _ h=>h)
theorem Rw.lt {w:World}{a:Option Addr}{len:Nat}{f:Nat→Nat} (h:Rw w a len f) (x:Addr) (hx:a=I x) (hp:0 < len):x.block < w.heap.size:=by
 obtain ⟨b,off,rfl,hc⟩:=h.2 hp
 simp at hx
 subst hx
 exact J w _ (hc 0 hp)
theorem Rw.nil (w:World)(a:Option Addr)(f:Nat→Nat):Rw w a 0 f:=⟨Nat.zero_le _,fun h=>absurd h (by omega)⟩
section
variable {P:Program}{ops:Array Oper}{rest:List Oper}{a:Act}{w w':World}{Q:Exit→Act→World→Prop}{dst:Option Tmp}{ty:TypeId}{pos:String}{after:Array Edge}
theorem Qno (t:TypeId)(v:Value)(hr:(Instr.alloc t true (.tuple #[])).run P w=.ok v w')(h:wpList P ops Q rest (a.put dst v) w') :
  wpList P ops Q ({ dst:=dst,op:=.alloc t,type:=ty,pos:=pos,after:=after,guard:=V } :: rest) a w :=
 wpList_plain rfl fun K hK=>by
  unfold Oper.wp execOp
  simp only [Sem.run_bind,hr,Result.andThen_ok,Sem.run_pure]
  exact hK _ _ h
end
theorem Qfu {k:IntKind}{a b:Int} (h:a=b):Ending.returned (.int k a)=.returned (.int k b):=by rw [h]
theorem Qa8 {a b:Bool}(h:a=b):Ending.returned (.bool a)=.returned (.bool b):=by rw [h]
theorem Qty {k:IntKind}{a b:Int} (h:a=b):Value.int k a=.int k b:=by rw [h]
theorem Qaj {B:Nat}{w w':World} (h:Below B w w') (m:Nat):Below B w (w'.drewN m):=⟨h.os,h.tape,h.output,h.size,h.block⟩
theorem Qc1 (w:World)(a b:Nat):(w.drewN a).drewN b=w.drewN (a+b):=by
 simp [World.drewN,Nat.add_assoc]
theorem Qay (w:World)(m:Nat)(x:Addr):(w.drewN m).cell? x=w.cell? x:=World.cell?_of_block rfl
def IRd (w:World)(a:Option Addr)(zs:List Int):Prop:=0 < zs.length→∃ b off,a=I ⟨b,off,V⟩∧∀ j z,zs[j]?=I z→w.cell? ⟨b,off+j,V⟩=I (.int .i64 z)
theorem IRd.below {w w':World}{a:Option Addr}{zs:List Int} (h:IRd w a zs) (hb:Below w.heap.size w w'):IRd w' a zs:=fun hp=>by
 obtain ⟨b,off,rfl,hc⟩:=h hp
 exact ⟨b,off,rfl,fun j z hj=>by rw [hb.cell (p:=⟨b,off+j,V⟩) (J w _ (hc j z hj))]; exact hc j z hj⟩
structure Qmt (w:World) (a:Option Addr) (ss:List (Bool×List Int)):Prop where
 cells:0 < ss.length→∃ b off,a=I ⟨b,off,V⟩∧∀ i s,ss[i]?=I s→w.cell? ⟨b,off+i * 2,V⟩=I (.bool s.1)∧∃ a' c',w.cell? ⟨b,off+i * 2+1,V⟩=I (U a' s.2.length c')∧IRd w a' s.2
 small:ss.length≤maxLen
 smalls:∀ s∈ss,s.2.length≤maxLen
theorem Qmt.below {w w':World}{a:Option Addr}{ss:List (Bool×List Int)} (h:Qmt w a ss) (hb:Below w.heap.size w w'):Qmt w' a ss:=by
 refine ⟨fun hp=>?_,h.small,h.smalls⟩
 obtain ⟨b,off,rfl,hc⟩:=h.cells hp
 refine ⟨b,off,rfl,fun i s hi=>?_⟩
 obtain ⟨h1,a',c',h2,h3⟩:=hc i s hi
 exact ⟨by rw [hb.cell (p:=⟨b,off+i * 2,V⟩) (J w _ h1)]; exact h1,a',c',by rw [hb.cell (p:=⟨b,off+i * 2+1,V⟩) (J w _ h2)]; exact h2,h3.below hb⟩
def lenP:List (Bool×List Int)→Nat
 | []=>0
 | s :: r=>(if s.1 then 1 else s.2.length)+lenP r
def sumP:List (Bool×List Int)→Nat
 | []=>0
 | s :: r=>s.2.length+sumP r
theorem Qf9 (l:List (Bool×List Int))(s:Bool×List Int):sumP (l++[s])=sumP l+s.2.length:=by
 induction l with
 | nil=>simp [sumP]
 | cons a l ih=>simp only [List.cons_append,sumP,ih]; omega
theorem Qm6 (l:List (Bool×List Int)):∀ k,sumP (l.take k)≤sumP l:=by
 induction l with
 | nil=>intro k; simp [sumP]
 | cons a l ih =>
  intro k
  cases k with
  | zero=>simp [sumP]
  | succ k=>simp only [List.take_succ_cons,sumP]; have:=ih k; omega
theorem Qhe (l:List (Bool×List Int))(s:Bool×List Int)(h:s∈l):s.2.length≤sumP l:=by
 induction l with
 | nil=>simp at h
 | cons a l ih =>
  simp only [sumP]
  rcases List.mem_cons.1 h with rfl | h
  ·omega
  ·have:=ih h; omega
def okN (z:Int):Bool:=decide (1≤z∧z≤4294967295)
def okS (s:Bool×List Int):Bool:=decide (1≤s.2.length∧s.2.length≤255) && s.2.all okN
def Qd3 (ss:List (Bool×List Int)):Bool:=ss.all okS && decide (sumP ss≤64)
theorem Qw7 {ss:List (Bool×List Int)}{s:Bool×List Int} (h:s∈ss) (hs:okS s=false):Qd3 ss=false:=by
 unfold Qd3
 have:ss.all okS=false:=by
  rw [Bool.eq_false_iff]
  intro hh
  rw [List.all_eq_true.1 hh s h] at hs
  cases hs
 rw [this]; rfl
theorem Qtv {s:Bool×List Int}(h:¬ (1≤s.2.length∧s.2.length≤255)):okS s=false:=by
 unfold okS
 rw [decide_eq_false h]; rfl
theorem Qym {s:Bool×List Int}{z:Int} (h:z∈s.2) (hz:okN z=false):okS s=false:=by
 unfold okS
 have:s.2.all okN=false:=by
  rw [Bool.eq_false_iff]
  intro hh
  rw [List.all_eq_true.1 hh z h] at hz
  cases hz
 rw [this,Bool.and_false]
theorem Qso (b off n cap:Nat)(ss:List (Bool×List Int))(w:World)(hn:ss.length=n)(hsum:n+sumP ss≤100000)(hc:∀ i s,ss[i]?=I s→w.cell? ⟨b,off+i * 2,V⟩=I (.bool s.1)∧∃ a' c',w.cell? ⟨b,off+i * 2+1,V⟩=I (U a' s.2.length c')∧IRd w a' s.2) :
  Calls Z 74 #[U (I ⟨b,off,V⟩) n cap] w fun e w'=>e=.returned (.bool (Qd3 ss))∧w'=w:=by
 have HC:=Qaa hc
 have HN:=Qaa hn
 clear hc hn
 go_enter Tryz.func74,Tryz.ntmps74
 go_wp2
 go_loop [3,4] (fun t i=>∃ k x:Nat,k≤n∧i=.int .i64 k∧t=.int .i64 (x:Int)∧Hid (x=sumP (ss.take k))∧Hid ((ss.take k).all okS=true)) (fun _ i=>n - (intOf i).toNat)
 case atStart=>exact ⟨0,0,Nat.zero_le _,rfl,rfl,rfl,rfl⟩
 case round =>
  obtain ⟨k,x,hk,rfl,rfl,HX,HA⟩:=hrel
  by_cases hlt:k < n
  ·have hkp:k < ss.length:=by rw [HN.out]; exact hlt
   obtain ⟨c0,a',c',c1,hr⟩:=HC.out k ss[k] (List.getElem?_eq_getElem hkp)
   have HR:=Qaa hr
   clear hr
   have HT:Hid (sumP (ss.take (k+1))=sumP (ss.take k)+(ss[k]).2.length):=by show sumP (ss.take (k+1))=_; rw [List.take_succ_eq_append_getElem hkp,Qf9]
   have HTA:Hid ((ss.take (k+1)).all okS=((ss.take k).all okS && okS ss[k])):=by show (ss.take (k+1)).all okS=_; rw [List.take_succ_eq_append_getElem hkp]; simp only [List.all_append,List.all_cons,List.all_nil,Bool.and_true]
   have HNO:Hid (okS ss[k]=false→Qd3 ss=false):=Qw7 (List.getElem_mem hkp)
   have hx:x≤100000:=by have:=Qm6 ss k; rw [HX.out]; omega
   have hl:(ss[k]).2.length≤100000:=by have:=Qhe ss _ (List.getElem_mem hkp); omega
   generalize hsk:ss[k]=s at *
   clear hsk
   obtain ⟨b1,zs⟩:=s
   simp only at hl c1 c0
   generalize hll:zs.length=l at *
   have HLL:=Qaa hll
   clear hll
   have hk0:(0:Int)≤(k:Int):=Int.natCast_nonneg _
   have hk1:(k:Int) < (n:Int):=by omega
   by_cases h1:l < 1
   ·have HG:Hid (Qd3 ss=false):=HNO.out (Qtv (by show ¬ (1≤zs.length∧zs.length≤255); rw [HLL.out]; omega))
    have i1:(l:Int) < 1:=by omega
    go_wp2
    go_ret
    exact ⟨Qa8 HG.out.symm,rfl⟩
   ·by_cases h2:255 < l
    ·have HG:Hid (Qd3 ss=false):=HNO.out (Qtv (by show ¬ (1≤zs.length∧zs.length≤255); rw [HLL.out]; omega))
     have i1:decide ((l:Int) < 1)=false:=decide_eq_false (by omega)
     have i2:(255:Int) < (l:Int):=by omega
     go_wp2
     go_ret
     exact ⟨Qa8 HG.out.symm,rfl⟩
    ·have i1:decide ((l:Int) < 1)=false:=decide_eq_false (by omega)
     have i2:decide ((255:Int) < (l:Int))=false:=decide_eq_false (by omega)
     have hl255:l≤255:=by omega
     go_wp2
     go_loop [3,5] (fun t i=>∃ q y:Nat,q≤l∧i=.int .i64 q∧t=.int .i64 (y:Int)∧Hid (y=x+q)∧Hid ((zs.take q).all okN=true)) (fun _ i=>l - (intOf i).toNat)
     case atStart=>exact ⟨0,x,Nat.zero_le _,rfl,rfl,rfl,rfl⟩
     case round =>
      obtain ⟨q,y,hq,rfl,rfl,HY,HQ⟩:=hrel
      have hy:y≤200000:=by rw [HY.out]; omega
      by_cases hlq:q < l
      ·have hqp:q < zs.length:=by rw [HLL.out]; exact hlq
       obtain ⟨b2,o2,e2,hcz⟩:=HR.out (by show 0 < zs.length; omega)
       subst e2
       have cz:=hcz q zs[q] (List.getElem?_eq_getElem hqp)
       have HTQ:Hid ((zs.take (q+1)).all okN=((zs.take q).all okN && okN zs[q])):=by show (zs.take (q+1)).all _=_; rw [List.take_succ_eq_append_getElem hqp]; simp only [List.all_append,List.all_cons,List.all_nil,Bool.and_true]
       have HZ:Hid (okN zs[q]=false→Qd3 ss=false):=fun h=>HNO.out (Qym (List.getElem_mem hqp) h)
       clear hcz
       generalize zs[q]=z at *
       have hq0:(0:Int)≤(q:Int):=Int.natCast_nonneg _
       have hq1:(q:Int) < (l:Int):=by omega
       by_cases hz1:z < 1
       ·have HG:Hid (Qd3 ss=false):=HZ.out (decide_eq_false (by omega))
        go_wp2
        go_ret
        exact ⟨Qa8 HG.out.symm,rfl⟩
       ·by_cases hz2:4294967295 < z
        ·have HG:Hid (Qd3 ss=false):=HZ.out (decide_eq_false (by omega))
         have j1:decide (z < 1)=false:=decide_eq_false hz1
         go_wp2
         go_ret
         exact ⟨Qa8 HG.out.symm,rfl⟩
        ·have j1:decide (z < 1)=false:=decide_eq_false hz1
         have j2:decide (4294967295 < z)=false:=decide_eq_false hz2
         have HQ2:Hid ((zs.take (q+1)).all okN=true):=by
          show (zs.take (q+1)).all okN=true
          rw [HTQ.out,HQ.out,show okN z=true from decide_eq_true (by omega)]; rfl
         clear hz1 hz2
         go_wp2
         exact ⟨⟨q+1,y+1,by omega,by go_num,by go_num,by show y+1=x+(q+1); rw [HY.out]; omega,HQ2⟩,by simp [intOf]; omega⟩
      ·have hql:q=l:=by omega
       subst hql
       have HS:Hid (okS (b1,zs)=true):=by
        show okS (b1,zs)=true
        have hz:=HQ.out
        rw [List.take_of_length_le (by rw [HLL.out]; omega)] at hz
        unfold okS
        rw [hz,decide_eq_true (by show 1≤zs.length∧zs.length≤255; rw [HLL.out]; omega)]; rfl
       go_wp2
       exact ⟨⟨k+1,y,by omega,by go_num,rfl,by show y=_; rw [HT.out,HY.out,HX.out],by show (ss.take (k+1)).all okS=true; rw [HTA.out,HA.out,HS.out]; rfl⟩,by simp [intOf]; omega⟩
  ·have hkl:ss.take k=ss:=List.take_of_length_le (by rw [HN.out]; omega)
   rw [hkl] at HX HA
   have HG:Hid (Qd3 ss=decide (sumP ss≤64)):=by show Qd3 ss=_; unfold Qd3; rw [HA.out,Bool.true_and]
   go_wp2
   go_ret
   exact ⟨Qa8 (by rw [HG.out,HX.out,Bool.eq_iff_iff]; simp; omega),rfl⟩
theorem Qos (a:Option Addr)(cap:Nat)(w:World):Calls Z 74 #[U a 0 cap] w fun e w'=>e=.returned (.bool true)∧w'=w:=by
 go_enter Tryz.func74,Tryz.ntmps74
 go_wp2
 go_loop [3,4] (fun t i=>i=.int .i64 0∧t=.int .i64 0) (fun _ i=>0 - (intOf i).toNat)
 case atStart=>exact ⟨rfl,rfl⟩
 case round =>
  obtain ⟨rfl,rfl⟩:=hrel
  go_wp2
  go_ret
  exact ⟨rfl,rfl⟩
theorem Qnx (a:Option Addr)(cap:Nat)(ss:List (Bool×List Int))(w:World)(hsum:ss.length+sumP ss≤100000)(h:Qmt w a ss):Calls Z 74 #[U a ss.length cap] w fun e w'=>e=.returned (.bool (Qd3 ss))∧w'=w:=by
 by_cases h0:ss=[]
 ·subst h0; exact Qos a cap w
 ·obtain ⟨b,off,rfl,hc⟩:=h.cells (List.length_pos_iff.2 h0)
  exact Qso b off _ cap ss w rfl hsum hc
theorem Tryz.infoU8:(Z.info? 5).map (fun i=>(i.zero,i.size,i.bytes))=I (I (.int .u8 0),1,1):=by kernel_rfl
theorem Qcz {P:Program}{t:TypeId}{z:Option Value}{s b:Nat} (h:(P.info? t).map (fun i=>(i.zero,i.size,i.bytes))=I (z,s,b)):∃ i,P.info? t=I i∧i.zero=z∧i.size=s∧i.bytes=b:=by
 cases hi:P.info? t with
 | none=>rw [hi] at h; cases h
 | some i =>
  rw [hi] at h
  simp at h
  exact ⟨i,rfl,h.1,h.2.1,h.2.2⟩
structure Qsr (t e:TypeId) (size bytes:Nat):Prop where
 sl:Z.underlying t=I (.slice e)
 info:∃ i z,Z.info? e=I i∧i.zero=I z∧i.size=size∧i.bytes=bytes∧z.cells.size=size
 pos:0 < size
 small:bytes≤1000
theorem elemU8:Qsr 22 5 1 1:=by
 obtain ⟨i,h1,h2,h3,h4⟩:=Qcz Tryz.infoU8
 exact ⟨Tryz.underlying22,⟨i,_,h1,h2,h3,h4,rfl⟩,by omega,by omega⟩
theorem Qb1 {w:World}{B e size n:Nat}{v:Value}{xs:List Value} (h:w.ownsRow B e size v n xs):∀ b,v.ownBlock=I b→B≤b∧b < w.heap.size:=by
 intro b hb
 rcases h.2 with ⟨rfl,_⟩ | ⟨g,cap,cur,rfl,hg,hc,_⟩
 ·simp [Value.ownBlock] at hb
 ·simp [Value.ownBlock] at hb
  subst hb
  exact ⟨hg,(Array.getElem?_eq_some_iff.1 hc).1⟩
theorem Qaq {w w':World}{B e size n:Nat}{v:Value}{xs:List Value} (h:w.ownsRow B e size v n xs) (hb:Below w.heap.size w w'):w'.ownsRow B e size v n xs:=by
 refine ⟨h.1,?_⟩
 rcases h.2 with hh | ⟨g,cap,cur,e1,hg,hc,rest⟩
 ·exact .inl hh
 ·exact .inr ⟨g,cap,cur,e1,hg,by rw [hb.block g (Array.getElem?_eq_some_iff.1 hc).1]; exact hc,rest⟩
theorem Qbm (w:World)(B e size:Nat):w.ownsRow B e size (U V 0 0) 0 []:=⟨by simp,.inl ⟨rfl,rfl⟩⟩
theorem Qtg {t e size bytes:Nat}(he:Qsr t e size bytes){w:World}{B n:Nat}{v:Value}{xs:List Value} (ho:w.ownsRow B e size v n xs) (hB:B≤w.heap.size) (a:Addr) (m c:Nat) (news:List Value) (hl:news.length=m * size)
  (hnews:∀ j u,news[j]?=I u→w.cell? (a.add j)=I u) (h1:∀ u∈news,u.oneCell'=true) (hn:n+m≤1000000) :
  ∃ v' w',(Builtin.append_ #[t,t] t #[v,U (I a) m c]).run Z w=.ok v' w'∧w'.ownsRow B e size v' (n+m) (xs++news)∧Below B w w':=by
 obtain ⟨i,z,hi,hz,hsz,hby,hzs⟩:=he.info
 have hsm:=he.small
 have hb:(n+m) * bytes≤1000000 * 1000:=Nat.mul_le_mul hn hsm
 obtain ⟨v',w',hr,h2,h3,_,_⟩:=run_append_own_at (P:=Z) w B t t e i z size bytes he.sl hi hz hsz hby hzs he.pos v n xs ho a m c news hl hnews h1 (by unfold maxLen; omega) (by omega) hB
 exact ⟨v',w',hr,h2,((Qae.refl (fun b=>v.ownBlock=I b) w).grown h3 (fun b e=>.inl e)).below B hB (fun b e=>(Qb1 ho b e).1)⟩
theorem Qig {t e size bytes:Nat}(he:Qsr t e size bytes){w:World}{B n:Nat}{v:Value}{xs:List Value} (ho:w.ownsRow B e size v n xs) (hB:B≤w.heap.size) (m:Nat) (news:List Value) (hl:news.length=m * size)
  (h1:∀ u∈news,u.oneCell'=true) (hn:n+m≤1000000) (H:Nat) (hH:w.heap.size=H) :
  ∃ v' w',(Builtin.append_ #[t,t] t #[v,U (I ⟨H,0,V⟩) m m]).run Z (w.alloc (.cells news.toArray e))=.ok v' w'∧w'.ownsRow B e size v' (n+m) (xs++news)∧Below B w w':=by
 subst hH
 have hb1:Below B w (w.alloc (.cells news.toArray e)):=(Below.refl _ _).alloc hB _
 obtain ⟨v',w',hr,h2,h3⟩:=Qtg he (ho.alloc _) (w:=w.alloc (.cells news.toArray e)) (by simp; omega) ⟨w.heap.size,0,V⟩ m m news hl (fun j u hu=>by
  rw [Addr.add_mid,Nat.zero_add,World.cell?_alloc_mark]
  simpa using hu) h1 hn
 exact ⟨v',w',hr,h2,hb1.trans h3⟩
section
variable {P:Program}{ops:Array Oper}{rest:List Oper}{a:Act}{w w':World}{Q:Exit→Act→World→Prop}{dst:Option Tmp}{ty:TypeId}{pos:String}{after:Array Edge}
theorem Qdw (d s:Operand)(t:TypeId)(p v:Value)(r:Value)(hd:a.eval d=p)(hs:a.eval s=v)(hr:(Builtin.append_ #[t,t] ty #[p,v]).run P w=.ok r w')(h:wpList P ops Q rest (a.put dst r) w') :
  wpList P ops Q ({ dst:=dst,op:=.call { callee:=.builtin .append,args:=#[d,s],argTypes:=#[t,t] },type:=ty,pos:=pos,after:=after,guard:=V } :: rest) a w :=
 wpList_plain rfl fun K hK=>by
  unfold Oper.wp execOp
  simp only [resolve,invoke,builtin,Sem.run_bind,Sem.run_pure,Result.andThen_ok,List.map_toArray,List.map_cons,List.map_nil,hd,hs,hr]
  exact hK _ _ h
end
def Qal (l:List Nat):List Value:=l.map fun (x:Nat)=>Value.int .u8 (x:Int)
theorem Qfo (l r:List Nat):Qal (l++r)=Qal l++Qal r:=by simp [Qal]
theorem Qfk (l:List Nat):∀ u∈Qal l,u.oneCell'=true:=by
 intro u hu
 obtain ⟨i,_,rfl⟩:=List.mem_map.1 hu
 rfl
theorem Qbd (l:List Nat):(Qal l).length=l.length:=by simp [Qal]
def sliceLen:Value→Nat
 | U _ n _=>n
 | _=>0
theorem Qe7 {t e size bytes:Nat}(he:Qsr t e size bytes){w:World}{B n:Nat}{v:Value}{xs:List Value} (ho:w.ownsRow B e size v n xs) (hB:B≤w.heap.size) (a:Addr) (m c:Nat) (news:List Value) (hl:news.length=m * size)
  (hnews:∀ j u,news[j]?=I u→w.cell? (a.add j)=I u) (h1:∀ u∈news,u.oneCell'=true) (hn:n+m≤1000000) :
  ∃ v' w',(Builtin.append_ #[t,t] t #[v,U (I a) m c]).run Z w=.ok v' w'∧w'.ownsRow B e size v' (n+m) (xs++news)∧Below B w w'∧w.grownBy w' v.ownBlock∧(v'.ownBlock=v.ownBlock∨v'.ownBlock=I w.heap.size):=by
 obtain ⟨i,z,hi,hz,hsz,hby,hzs⟩:=he.info
 have hsm:=he.small
 have hb:(n+m) * bytes≤1000000 * 1000:=Nat.mul_le_mul hn hsm
 obtain ⟨v',w',hr,h2,h3,_,h5⟩:=run_append_own_at (P:=Z) w B t t e i z size bytes he.sl hi hz hsz hby hzs he.pos v n xs ho a m c news hl hnews h1 (by unfold maxLen; omega) (by omega) hB
 exact ⟨v',w',hr,h2,((Qae.refl (fun b=>v.ownBlock=I b) w).grown h3 (fun b e=>.inl e)).below B hB (fun b e=>(Qb1 ho b e).1),h3,h5⟩
def Qdl (P:Program)(o:Oper)(a:Act)(w:World)(K:Act→World→Prop)(Q:Exit→Act→World→Prop):Prop:=Oper.wp P o a w K Q
section
variable {P:Program}{a:Act}{w w':World}{K:Act→World→Prop}{Q:Exit→Act→World→Prop}{dst:Option Tmp}{ty:TypeId}{pos:String}{after:Array Edge}{gd:Option (Nat×Bool)}
theorem Qey (x y:Operand):Oper.wp P { dst:=dst,op:=.call { callee:=.builtin .append,args:=#[x,y],argTypes:=#[22,22] },type:=ty,pos:=pos,after:=after,guard:=gd } a w K Q=Qdl P { dst:=dst,op:=.call { callee:=.builtin .append,args:=#[x,y],argTypes:=#[22,22] },type:=ty,pos:=pos,after:=after,guard:=gd } a w K Q:=rfl
theorem Qdk (x y:Operand)(p q v:Value)(hx:a.eval x=p)(hy:a.eval y=q)(hr:(Builtin.append_ #[22,22] ty #[p,q]).run P w=.ok v w')(h:K (a.put dst v) w') :
  Qdl P { dst:=dst,op:=.call { callee:=.builtin .append,args:=#[x,y],argTypes:=#[22,22] },type:=ty,pos:=pos,after:=after,guard:=gd } a w K Q:=by
 unfold Qdl Oper.wp execOp
 simp only [resolve,invoke,builtin,Sem.run_bind,Sem.run_pure,Result.andThen_ok,List.map_toArray,List.map_cons,List.map_nil,hx,hy,hr]
 exact h
end
def Qd2 (A n:Nat):Nat:=A / 2 ^ (32 - n) * 2 ^ (32 - n)
def Qg3 (A i:Nat):Nat:=A / 2 ^ (31 - i) % 2
theorem Qwm (A i:Nat):Qg3 A i < 2:=Nat.mod_lt _ (by omega)
theorem Qxp (A n:Nat):Qd2 A n≤A:=Nat.div_mul_le_self _ _
theorem Qif (A:Nat)(h:A < 4294967296):Qd2 A 0=0:=by
 unfold Qd2
 rw [Nat.div_eq_of_lt (by simpa using h),Nat.zero_mul]
theorem Qr2 (A i:Nat)(h:i < 32):Qd2 A (i+1)=Qd2 A i+Qg3 A i * 2 ^ (31 - i):=by
 unfold Qd2 Qg3
 rw [show 32 - (i+1)=31 - i from by omega,show 32 - i=(31 - i)+1 from by omega,Nat.pow_succ]
 generalize 2 ^ (31 - i)=m
 rw [← Nat.div_div_eq_div_mul]
 generalize A / m=q
 have e:=Nat.div_add_mod q 2
 have e2:q * m=(2 * (q / 2)+q % 2) * m:=by rw [e]
 rw [e2,Nat.add_mul]
 congr 1
 ac_rfl
theorem Qwf (A n:Nat)(h:A < 4294967296):Qd2 A n < 4294967296:=Nat.lt_of_le_of_lt (Qxp A n) h
def Qgx (n:Nat):Nat:=4294967296 - 2 ^ (32 - n)
theorem Qs1 (n:Nat):Qgx n < 4294967296:=by
 unfold Qgx
 have:=Nat.two_pow_pos (32 - n)
 omega
theorem Qw4 (n:Nat):2 ^ (32 - n)≤4294967296:=by
 have:=Nat.pow_le_pow_right (n:=2) (by omega) (show 32 - n≤32 from by omega)
 simpa using this
theorem Qvt (A n:Nat)(h:A < 4294967296)(hn:n≤32):A &&& Qgx n=Qd2 A n:=by
 have e:Qgx n=(2 ^ n - 1) * 2 ^ (32 - n):=by
  unfold Qgx
  rw [Nat.sub_mul,← Nat.pow_add,Nat.one_mul,show n+(32 - n)=32 from by omega]
 rw [e]
 unfold Qd2
 apply Nat.eq_of_testBit_eq
 intro i
 rw [Nat.testBit_and,Nat.testBit_mul_two_pow,Nat.testBit_mul_two_pow,Nat.testBit_two_pow_sub_one,Nat.testBit_div_two_pow]
 by_cases h1:32 - n≤i
 ·rw [show i - (32 - n)+(32 - n)=i from by omega]
  by_cases h2:i < 32
  ·simp [h1,show i - (32 - n) < n from by omega]
  ·have:A.testBit i=false:=Nat.testBit_lt_two_pow (Y h (by have:=Nat.pow_le_pow_right (n:=2) (by omega) (show 32≤i from by omega); simpa using this))
   simp [this]
 ·simp [h1]
def Qgq (n:Nat):Nat:=(n+7) / 8
theorem Qpn (n:Nat)(h:n≤32):Qgq n≤4:=by unfold Qgq; omega
def Qca (f:Nat→Nat)(j:Nat):Nat→Nat
 | 0=>0
 | k+1=>Qca f j k+f (j+k) * 2 ^ (8 * (3 - k))
theorem Qob (f:Nat→Nat)(j:Nat):∀ k,k≤4→∃ q,Qca f j k=2 ^ (8 * (4 - k)) * q
 | 0,_=>⟨0,by simp [Qca]⟩
 | k+1,h=>by
  obtain ⟨q,hq⟩:=Qob f j k (by omega)
  refine ⟨256 * q+f (j+k),?_⟩
  rw [Qca,hq,show 4 - (k+1)=3 - k from by omega,show 8 * (4 - k)=8 * (3 - k)+8 from by omega,Nat.pow_add,Nat.mul_add]
  simp only [Nat.reducePow]
  rw [Nat.mul_assoc,Nat.mul_comm (f (j+k))]
theorem Qxu (f:Nat→Nat)(j k:Nat)(hk:k≤4)(hf:∀ q,q < k→f (j+q) < 256):Qca f j k+2 ^ (8 * (4 - k))≤4294967296:=by
 induction k with
 | zero=>simp [Qca]
 | succ k ih =>
  have h1:=ih (by omega) (fun q hq=>hf q (by omega))
  have h2:=hf k (by omega)
  rw [Qca,show 4 - (k+1)=3 - k from by omega]
  rw [show 8 * (4 - k)=8 * (3 - k)+8 from by omega,Nat.pow_add] at h1
  generalize 2 ^ (8 * (3 - k))=m at *
  have h3:f (j+k) * m+m≤m * 2 ^ 8:=by
   rw [← Nat.succ_mul,Nat.mul_comm]
   exact Nat.mul_le_mul_left m (by omega)
  omega
theorem Qd4 (f:Nat→Nat)(j k:Nat)(hk:k≤4)(hf:∀ q,q < k→f (j+q) < 256):Qca f j k < 4294967296:=by
 have:=Qxu f j k hk hf
 have:=Nat.two_pow_pos (8 * (4 - k))
 omega
theorem Qme (f:Nat→Nat)(j k:Nat)(hk:k < 4)(hf:f (j+k) < 256):Qca f j k ||| f (j+k) * 2 ^ (8 * (3 - k))=Qca f j (k+1):=by
 obtain ⟨q,hq⟩:=Qob f j k (by omega)
 have hlt:f (j+k) * 2 ^ (8 * (3 - k)) < 2 ^ (8 * (4 - k)):=by
  rw [show 8 * (4 - k)=8+8 * (3 - k) from by omega,Nat.pow_add]
  exact Nat.mul_lt_mul_of_pos_right (by simpa using hf) (Nat.two_pow_pos _)
 rw [Qca,hq,Nat.two_pow_add_eq_or_of_lt hlt]
theorem Qf0 (f g:Nat→Nat)(j i k:Nat)(h:∀ q,q < k→f (j+q)=g (i+q)):Qca f j k=Qca g i k:=by
 induction k with
 | zero=>rfl
 | succ k ih=>rw [Qca,Qca,ih (fun q hq=>h q (by omega)),h k (by omega)]
def Qsb (f:Nat→Nat)(len i:Nat):Bool:=decide (f i≤32∧i+1+Qgq (f i)≤len)
def Qf3 (f:Nat→Nat)(i:Nat):Nat×Nat:=(Qd2 (Qca f (i+1) (Qgq (f i))) (f i),f i)
def Qfb (f:Nat→Nat)(len:Nat):Nat→Nat→List (Nat×Nat)→Option (List (Nat×Nat))
 | 0,_,acc=>I acc
 | k+1,i,acc=>if i < len then if Qsb f len i then Qfb f len k (i+1+Qgq (f i)) (acc++[Qf3 f i]) else V else I acc
def Qch (f:Nat→Nat)(len i:Nat)(acc:List (Nat×Nat)):Option (List (Nat×Nat)):=Qfb f len (len - i) i acc
theorem Qg8 {f:Nat→Nat}{len i:Nat}{acc:List (Nat×Nat)} (h:¬ i < len):∀ k,Qfb f len k i acc=I acc
 | 0=>rfl
 | k+1=>by rw [Qfb,if_neg h]
theorem Qi1 (f:Nat→Nat)(len:Nat):∀ (k i:Nat) (acc:List (Nat×Nat)),len - i≤k→∀ d,Qfb f len (k+d) i acc=Qfb f len k i acc
 | 0,i,acc,h,d=>by rw [Qg8 (by omega),Qg8 (by omega)]
 | k+1,i,acc,h,d=>by
  rw [show k+1+d=(k+d)+1 from by omega,Qfb,Qfb]
  by_cases hi:i < len
  ·rw [if_pos hi,if_pos hi]
   by_cases ho:Qsb f len i=true
   ·rw [if_pos ho,if_pos ho]
    exact Qi1 f len k _ _ (by omega) d
   ·rw [if_neg ho,if_neg ho]
  ·rw [if_neg hi,if_neg hi]
theorem Qj3 {f:Nat→Nat}{len i:Nat}{acc:List (Nat×Nat)} (h:i < len) (ho:Qsb f len i=true):Qch f len i acc=Qch f len (i+1+Qgq (f i)) (acc++[Qf3 f i]):=by
 unfold Qch
 rw [show len - i=(len - i - 1)+1 from by omega,Qfb,if_pos h,if_pos ho,show len - i - 1=(len - (i+1+Qgq (f i)))+(len - i - 1 - (len - (i+1+Qgq (f i)))) from by omega,Qi1 _ _ _ _ _ (by omega)]
theorem Qka {f:Nat→Nat}{len i:Nat}{acc:List (Nat×Nat)} (h:i < len) (ho:Qsb f len i=false):Qch f len i acc=V:=by
 unfold Qch
 rw [show len - i=(len - i - 1)+1 from by omega,Qfb,if_pos h,if_neg (by simp [ho])]
theorem Qfm {f:Nat→Nat}{len i:Nat}{acc:List (Nat×Nat)} (h:¬ i < len):Qch f len i acc=I acc:=Qg8 h _
def Qyb (A q:Nat):Nat:=A / 2 ^ (8 * (3 - q)) % 256
