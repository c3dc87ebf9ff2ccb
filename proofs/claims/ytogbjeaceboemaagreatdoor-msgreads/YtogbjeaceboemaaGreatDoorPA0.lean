import Derived.Test.YtogbjeaceboemaaGreatDoorRows
import Derived.WalkKit
import Derived.WalkLawsBesides
import Derived.Below
import Derived.WalkSpells
import Derived.OpenShut
import Derived.OwnWalk
import Derived.Deep.MidRow
import Derived.Deep.AppendLies
import Derived.Laws.MakeOwn
import Derived.Laws.CopyRow
import Derived.Deep.QuietTactic
import Derived.BigQuiet
namespace Go.Proofs.YtogbjeaceboemaaGreatDoor
open Go.RowKit
set_option maxRecDepth 100000
theorem hide {p:Prop}(h:p):Hid p:=h
structure Keeps (F:Nat→Prop) (w w':World):Prop where
 os:w'.os=w.os
 tape:w'.tape=w.tape
 output:w'.output=w.output
 size:w.heap.size≤w'.heap.size
 block:∀ k,k < w.heap.size→¬ F k→w'.heap[k]?=w.heap[k]?
theorem Keeps.refl (F:Nat→Prop)(w:World):Keeps F w w:=⟨rfl,rfl,rfl,Nat.le_refl _,fun _ _ _=>rfl⟩
theorem Keeps.mono {F G:Nat→Prop}{w w':World} (h:Keeps F w w') (hg:∀ k,k < w.heap.size→F k→G k):Keeps G w w' :=
 ⟨h.os,h.tape,h.output,h.size,fun k hk hn=>h.block k hk fun hf=>hn (hg k hk hf)⟩
theorem Keeps.trans {F G:Nat→Prop}{w w1 w2:World} (h:Keeps F w w1) (k:Keeps G w1 w2) (hg:∀ b,b < w.heap.size→G b→F b):Keeps F w w2 :=
 ⟨k.os.trans h.os,k.tape.trans h.tape,k.output.trans h.output,Nat.le_trans h.size k.size,fun b hb hn=>by
  rw [k.block b (Nat.lt_of_lt_of_le hb h.size) fun hgb=>hn (hg b hb hgb),h.block b hb hn]⟩
theorem Keeps.alloc {F:Nat→Prop}{w w1:World} (h:Keeps F w w1) (o:Obj):Keeps F w (w1.alloc o) :=
 ⟨h.os,h.tape,h.output,by simp; exact Nat.le_succ_of_le h.size,fun k hk hn=>by
  have hk1:k < w1.heap.size:=Nat.lt_of_lt_of_le hk h.size
  show (w1.heap.push o)[k]?=_
  rw [Array.getElem?_push,if_neg (by omega)]
  exact h.block k hk hn⟩
theorem Keeps.drew {F:Nat→Prop}{w w1:World} (h:Keeps F w w1):Keeps F w w1.drew:=⟨h.os,h.tape,h.output,h.size,h.block⟩
theorem heap_setCell (w:World)(b o:Nat)(v:Value)(k:Nat)(hne:k≠b):(w.setCell ⟨b,o,none⟩ v).heap[k]?=w.heap[k]?:=by
 simp only [World.setCell,Array.getElem?_modify]
 rw [if_neg (Ne.symm hne)]
theorem size_setCells (b:Nat):∀ (vs:List Value) (o:Nat) (w:World),(w.setCells b o vs).heap.size=w.heap.size
 | [],_,_=>rfl
 | v :: r,o,w=>by rw [World.setCells,size_setCells b r (o+1) _]; simp
theorem Keeps.setCell {F:Nat→Prop}{w w1:World} (h:Keeps F w w1) (b o:Nat) (v:Value) (hb:F b∨w.heap.size≤b):Keeps F w (w1.setCell ⟨b,o,none⟩ v) :=
 ⟨h.os,h.tape,h.output,by simpa using h.size,fun k hk hn=>by
  rw [heap_setCell w1 b o v k (fun e=>by subst e; rcases hb with hb | hb; exact hn hb; omega)]
  exact h.block k hk hn⟩
theorem Keeps.setCells {F:Nat→Prop}{w w1:World} (h:Keeps F w w1) (b o:Nat) (vs:List Value) (hb:F b∨w.heap.size≤b):Keeps F w (w1.setCells b o vs):=by
 induction vs generalizing o w1 with
 | nil=>exact h
 | cons v r ih=>rw [World.setCells]; exact ih (h.setCell b o v hb) (o+1)
theorem Keeps.grown {F:Nat→Prop}{w w1 w2:World}{row:Option Nat} (h:Keeps F w w1) (hg:w1.grownBy w2 row) (hr:∀ b,row=some b→F b∨w.heap.size≤b):Keeps F w w2 :=
 ⟨hg.os.trans h.os,hg.tape.trans h.tape,hg.output.trans h.output,Nat.le_trans h.size hg.size,fun k hk hn=>by
  rw [hg.block k (Nat.lt_of_lt_of_le hk h.size) (fun e=>by rcases hr k e.symm with hf | hf; exact hn hf; omega)]
  exact h.block k hk hn⟩
theorem Keeps.below {F:Nat→Prop}{w w':World} (h:Keeps F w w') (B:Nat) (hB:B≤w.heap.size) (hF:∀ b,F b→B≤b):Below B w w' :=
 ⟨h.os,h.tape,h.output,h.size,fun k hk=>h.block k (by omega) fun hf=>by have:=hF k hf; omega⟩
theorem Keeps.of_below {w w':World}(h:Below w.heap.size w w')(F:Nat→Prop):Keeps F w w':=⟨h.os,h.tape,h.output,h.size,fun k hk _=>h.block k hk⟩
theorem Keeps.cell {F:Nat→Prop}{w w':World} (h:Keeps F w w') (a:Addr) (hb:a.block < w.heap.size) (hn:¬ F a.block):w'.cell? a=w.cell? a:=World.cell?_of_block (h.block _ hb hn)
def valsOf (f:Nat→Nat)(n:Nat):List Value:=(List.range n).map fun i=>Value.int .u8 (f i:Int)
theorem valsOf_length (f:Nat→Nat)(n:Nat):(valsOf f n).length=n:=by simp [valsOf]
theorem valsOf_get (f:Nat→Nat)(n i:Nat)(h:i < n):(valsOf f n)[i]?=some (Value.int .u8 (f i:Int)):=by simp [valsOf,h]
theorem valsOf_getElem (f:Nat→Nat)(n i:Nat)(h:i < (valsOf f n).length):(valsOf f n)[i]=Value.int .u8 (f i:Int):=by simp [valsOf]
def Grid (w:World)(b n:Nat)(g:Nat→Nat→Nat):Prop :=
 b < w.heap.size∧∀ i,i < n→∀ j,j < 64→w.cell? ⟨b,i * 64+j,none⟩=some (.int .u8 (g i j:Int))∧w.frozen? ⟨b,i * 64+j,none⟩=false
theorem Grid.range {w:World}{b n:Nat}{g:Nat→Nat→Nat} (h:Grid w b n g) (i:Nat) (hi:i < n):w.rangeAt b (i * 64) (valsOf (g i) 64):=by
 intro j v hv
 have hj:j < 64:=by simpa [valsOf_length] using (List.getElem?_eq_some_iff.1 hv).1
 rw [valsOf_get _ _ _ hj] at hv
 rw [(h.2 i hi j hj).1,hv]
theorem Grid.of_block {w w':World}{b n:Nat}{g:Nat→Nat→Nat} (h:Grid w b n g) (hs:w.heap.size≤w'.heap.size) (hb:w'.heap[b]?=w.heap[b]?):Grid w' b n g :=
 ⟨Nat.lt_of_lt_of_le h.1 hs,fun i hi j hj=>⟨by rw [World.cell?_of_block (w:=w) (by exact hb)]; exact (h.2 i hi j hj).1,by rw [World.frozen?_of_block (w:=w) (by exact hb)]; exact (h.2 i hi j hj).2⟩⟩
theorem Grid.keeps {F:Nat→Prop}{w w':World}{b n:Nat}{g:Nat→Nat→Nat} (h:Grid w b n g) (hk:Keeps F w w') (hn:¬ F b):Grid w' b n g :=
 h.of_block hk.size (hk.block b h.1 hn)
def putPage (g:Nat→Nat→Nat)(k m:Nat)(p:Nat→Nat):Nat→Nat→Nat:=fun i j=>if i=k∧j < m then p j else g i j
theorem Grid.store {w:World}{b n:Nat}{g:Nat→Nat→Nat} (h:Grid w b n g) (k:Nat) (hk:k < n) (m:Nat) (hm:m≤64) (p:Nat→Nat) :
  Grid (w.setCells b (k * 64) (valsOf p m)) b n (putPage g k m p):=by
 refine ⟨by rw [size_setCells]; exact h.1,fun i hi j hj=>⟨?_,by rw [World.frozen?_setCells]; exact (h.2 i hi j hj).2⟩⟩
 unfold putPage
 by_cases e:i=k∧j < m
 ·obtain ⟨rfl,hjm⟩:=e
  rw [if_pos ⟨rfl,hjm⟩,World.cell?_setCells_in b (valsOf p m) (i * 64) w (fun q hq=>by
   rw [valsOf_length] at hq
   rw [(h.2 i hi q (by omega)).1]; rfl) j (by rw [valsOf_length]; exact hjm),valsOf_getElem]
 ·rw [if_neg e,World.cell?_setCells_out b (valsOf p m) (k * 64) w _ (fun _ _=>by
   rw [valsOf_length]
   show i * 64+j < k * 64∨k * 64+m≤i * 64+j
   by_cases h1:i=k
   ·subst h1; right; omega
   ·rcases Nat.lt_or_gt_of_ne h1 with h2 | h2
    ·left; omega
    ·right; omega)]
  exact (h.2 i hi j hj).1
theorem Grid.alloc {w:World}{b n:Nat}{g:Nat→Nat→Nat} (h:Grid w b n g) (o:Obj):Grid (w.alloc o) b n g :=
 h.keeps (F:=fun _=>False) ((Keeps.refl _ w).alloc o) (fun h=>h)
def Rw (w:World)(a:Option Addr)(len:Nat)(f:Nat→Nat):Prop :=
 len≤maxLen∧(0 < len→∃ b off,a=some ⟨b,off,none⟩∧∀ i,i < len→w.cell? ⟨b,off+i,none⟩=some (.int .u8 (f i:Int)))
theorem Rw.keeps {F:Nat→Prop}{w w':World}{a:Option Addr}{len:Nat}{f:Nat→Nat} (h:Rw w a len f) (hk:Keeps F w w') (hn:∀ x,a=some x→0 < len→¬ F x.block):Rw w' a len f:=by
 refine ⟨h.1,fun hp=>?_⟩
 obtain ⟨b,off,rfl,hc⟩:=h.2 hp
 refine ⟨b,off,rfl,fun i hi=>?_⟩
 rw [hk.cell _ (World.block_lt_of_cell? w _ (hc i hi)) (hn ⟨b,off,none⟩ rfl hp)]
 exact hc i hi
theorem Rw.below {w w':World}{a:Option Addr}{len:Nat}{f:Nat→Nat} (h:Rw w a len f) (hk:Below w.heap.size w w'):Rw w' a len f :=
 h.keeps (F:=fun _=>False) (Keeps.of_below hk _) (fun _ _ _ h=>h)
theorem Rw.lt {w:World}{a:Option Addr}{len:Nat}{f:Nat→Nat} (h:Rw w a len f) (x:Addr) (hx:a=some x) (hp:0 < len):x.block < w.heap.size:=by
 obtain ⟨b,off,rfl,hc⟩:=h.2 hp
 simp at hx
 subst hx
 exact World.block_lt_of_cell? w _ (hc 0 hp)
theorem Rw.nil (w:World)(a:Option Addr)(f:Nat→Nat):Rw w a 0 f:=⟨Nat.zero_le _,fun h=>absurd h (by omega)⟩
section
variable {P:Program}{ops:Array Oper}{rest:List Oper}{a:Act}{w w':World}{Q:Exit→Act→World→Prop}{dst:Option Tmp}{ty:TypeId}{pos:String}{after:Array Edge}
theorem wpl_alloc (t:TypeId)(v:Value)(hr:(Instr.alloc t true (.tuple #[])).run P w=.ok v w')(h:wpList P ops Q rest (a.put dst v) w') :
  wpList P ops Q ({ dst:=dst,op:=.alloc t,type:=ty,pos:=pos,after:=after,guard:=none } :: rest) a w :=
 wpList_plain rfl fun K hK=>by
  unfold Oper.wp execOp
  simp only [Sem.run_bind,hr,Result.andThen_ok,Sem.run_pure]
  exact hK _ _ h
end
theorem ret_int {k:IntKind}{a b:Int} (h:a=b):Ending.returned (.int k a)=.returned (.int k b):=by rw [h]
theorem ret_bool {a b:Bool}(h:a=b):Ending.returned (.bool a)=.returned (.bool b):=by rw [h]
theorem int_eq {k:IntKind}{a b:Int} (h:a=b):Value.int k a=.int k b:=by rw [h]
theorem below_drewN {B:Nat}{w w':World} (h:Below B w w') (m:Nat):Below B w (w'.drewN m):=⟨h.os,h.tape,h.output,h.size,h.block⟩
theorem drewN_more (w:World)(a b:Nat):(w.drewN a).drewN b=w.drewN (a+b):=by
 simp [World.drewN,Nat.add_assoc]
theorem cell_drewN (w:World)(m:Nat)(x:Addr):(w.drewN m).cell? x=w.cell? x:=World.cell?_of_block rfl
def IRd (w:World)(a:Option Addr)(zs:List Int):Prop:=0 < zs.length→∃ b off,a=some ⟨b,off,none⟩∧∀ j z,zs[j]?=some z→w.cell? ⟨b,off+j,none⟩=some (.int .i64 z)
theorem IRd.below {w w':World}{a:Option Addr}{zs:List Int} (h:IRd w a zs) (hb:Below w.heap.size w w'):IRd w' a zs:=fun hp=>by
 obtain ⟨b,off,rfl,hc⟩:=h hp
 exact ⟨b,off,rfl,fun j z hj=>by rw [hb.cell (p:=⟨b,off+j,none⟩) (World.block_lt_of_cell? w _ (hc j z hj))]; exact hc j z hj⟩
structure PthRd (w:World) (a:Option Addr) (ss:List (Bool×List Int)):Prop where
 cells:0 < ss.length→∃ b off,a=some ⟨b,off,none⟩∧∀ i s,ss[i]?=some s→w.cell? ⟨b,off+i * 2,none⟩=some (.bool s.1)∧∃ a' c',w.cell? ⟨b,off+i * 2+1,none⟩=some (.slice a' s.2.length c')∧IRd w a' s.2
 small:ss.length≤maxLen
 smalls:∀ s∈ss,s.2.length≤maxLen
theorem PthRd.below {w w':World}{a:Option Addr}{ss:List (Bool×List Int)} (h:PthRd w a ss) (hb:Below w.heap.size w w'):PthRd w' a ss:=by
 refine ⟨fun hp=>?_,h.small,h.smalls⟩
 obtain ⟨b,off,rfl,hc⟩:=h.cells hp
 refine ⟨b,off,rfl,fun i s hi=>?_⟩
 obtain ⟨h1,a',c',h2,h3⟩:=hc i s hi
 exact ⟨by rw [hb.cell (p:=⟨b,off+i * 2,none⟩) (World.block_lt_of_cell? w _ h1)]; exact h1,a',c',by rw [hb.cell (p:=⟨b,off+i * 2+1,none⟩) (World.block_lt_of_cell? w _ h2)]; exact h2,h3.below hb⟩
def lenP:List (Bool×List Int)→Nat
 | []=>0
 | s :: r=>(if s.1 then 1 else s.2.length)+lenP r
def sumP:List (Bool×List Int)→Nat
 | []=>0
 | s :: r=>s.2.length+sumP r
theorem sumP_snoc (l:List (Bool×List Int))(s:Bool×List Int):sumP (l++[s])=sumP l+s.2.length:=by
 induction l with
 | nil=>simp [sumP]
 | cons a l ih=>simp only [List.cons_append,sumP,ih]; omega
theorem sumP_take (l:List (Bool×List Int)):∀ k,sumP (l.take k)≤sumP l:=by
 induction l with
 | nil=>intro k; simp [sumP]
 | cons a l ih =>
  intro k
  cases k with
  | zero=>simp [sumP]
  | succ k=>simp only [List.take_succ_cons,sumP]; have:=ih k; omega
theorem sumP_mem (l:List (Bool×List Int))(s:Bool×List Int)(h:s∈l):s.2.length≤sumP l:=by
 induction l with
 | nil=>simp at h
 | cons a l ih =>
  simp only [sumP]
  rcases List.mem_cons.1 h with rfl | h
  ·omega
  ·have:=ih h; omega
def okN (z:Int):Bool:=decide (1≤z∧z≤4294967295)
def okS (s:Bool×List Int):Bool:=decide (1≤s.2.length∧s.2.length≤255) && s.2.all okN
def goodP (ss:List (Bool×List Int)):Bool:=ss.all okS && decide (sumP ss≤64)
theorem goodP_no {ss:List (Bool×List Int)}{s:Bool×List Int} (h:s∈ss) (hs:okS s=false):goodP ss=false:=by
 unfold goodP
 have:ss.all okS=false:=by
  rw [Bool.eq_false_iff]
  intro hh
  rw [List.all_eq_true.1 hh s h] at hs
  cases hs
 rw [this]; rfl
theorem okS_len {s:Bool×List Int}(h:¬ (1≤s.2.length∧s.2.length≤255)):okS s=false:=by
 unfold okS
 rw [decide_eq_false h]; rfl
theorem okS_num {s:Bool×List Int}{z:Int} (h:z∈s.2) (hz:okN z=false):okS s=false:=by
 unfold okS
 have:s.2.all okN=false:=by
  rw [Bool.eq_false_iff]
  intro hh
  rw [List.all_eq_true.1 hh z h] at hz
  cases hz
 rw [this,Bool.and_false]
theorem Tryz.infoU8:(Tryz.prog.info? 5).map (fun i=>(i.zero,i.size,i.bytes))=some (some (.int .u8 0),1,1):=by kernel_rfl
theorem info_parts {P:Program}{t:TypeId}{z:Option Value}{s b:Nat} (h:(P.info? t).map (fun i=>(i.zero,i.size,i.bytes))=some (z,s,b)):∃ i,P.info? t=some i∧i.zero=z∧i.size=s∧i.bytes=b:=by
 cases hi:P.info? t with
 | none=>rw [hi] at h; cases h
 | some i =>
  rw [hi] at h
  simp at h
  exact ⟨i,rfl,h.1,h.2.1,h.2.2⟩
structure Elem (t e:TypeId) (size bytes:Nat):Prop where
 sl:Tryz.prog.underlying t=some (.slice e)
 info:∃ i z,Tryz.prog.info? e=some i∧i.zero=some z∧i.size=size∧i.bytes=bytes∧z.cells.size=size
 pos:0 < size
 small:bytes≤1000
theorem elemU8:Elem 22 5 1 1:=by
 obtain ⟨i,h1,h2,h3,h4⟩:=info_parts Tryz.infoU8
 exact ⟨Tryz.underlying22,⟨i,_,h1,h2,h3,h4,rfl⟩,by omega,by omega⟩
theorem own_block {w:World}{B e size n:Nat}{v:Value}{xs:List Value} (h:w.ownsRow B e size v n xs):∀ b,v.ownBlock=some b→B≤b∧b < w.heap.size:=by
 intro b hb
 rcases h.2 with ⟨rfl,_⟩ | ⟨g,cap,cur,rfl,hg,hc,_⟩
 ·simp [Value.ownBlock] at hb
 ·simp [Value.ownBlock] at hb
  subst hb
  exact ⟨hg,(Array.getElem?_eq_some_iff.1 hc).1⟩
theorem own_later {w w':World}{B e size n:Nat}{v:Value}{xs:List Value} (h:w.ownsRow B e size v n xs) (hb:Below w.heap.size w w'):w'.ownsRow B e size v n xs:=by
 refine ⟨h.1,?_⟩
 rcases h.2 with hh | ⟨g,cap,cur,e1,hg,hc,rest⟩
 ·exact .inl hh
 ·exact .inr ⟨g,cap,cur,e1,hg,by rw [hb.block g (Array.getElem?_eq_some_iff.1 hc).1]; exact hc,rest⟩
theorem own_nil (w:World)(B e size:Nat):w.ownsRow B e size (.slice none 0 0) 0 []:=⟨by simp,.inl ⟨rfl,rfl⟩⟩
theorem app_old {t e size bytes:Nat}(he:Elem t e size bytes){w:World}{B n:Nat}{v:Value}{xs:List Value} (ho:w.ownsRow B e size v n xs) (hB:B≤w.heap.size) (a:Addr) (m c:Nat) (news:List Value) (hl:news.length=m * size)
  (hnews:∀ j u,news[j]?=some u→w.cell? (a.add j)=some u) (h1:∀ u∈news,u.oneCell'=true) (hn:n+m≤1000000) :
  ∃ v' w',(Builtin.append_ #[t,t] t #[v,.slice (some a) m c]).run Tryz.prog w=.ok v' w'∧w'.ownsRow B e size v' (n+m) (xs++news)∧Below B w w':=by
 obtain ⟨i,z,hi,hz,hsz,hby,hzs⟩:=he.info
 have hsm:=he.small
 have hb:(n+m) * bytes≤1000000 * 1000:=Nat.mul_le_mul hn hsm
 obtain ⟨v',w',hr,h2,h3,_,_⟩:=run_append_own_at (P:=Tryz.prog) w B t t e i z size bytes he.sl hi hz hsz hby hzs he.pos v n xs ho a m c news hl hnews h1 (by unfold maxLen; omega) (by omega) hB
 exact ⟨v',w',hr,h2,((Keeps.refl (fun b=>v.ownBlock=some b) w).grown h3 (fun b e=>.inl e)).below B hB (fun b e=>(own_block ho b e).1)⟩
theorem app_new {t e size bytes:Nat}(he:Elem t e size bytes){w:World}{B n:Nat}{v:Value}{xs:List Value} (ho:w.ownsRow B e size v n xs) (hB:B≤w.heap.size) (m:Nat) (news:List Value) (hl:news.length=m * size)
  (h1:∀ u∈news,u.oneCell'=true) (hn:n+m≤1000000) (H:Nat) (hH:w.heap.size=H) :
  ∃ v' w',(Builtin.append_ #[t,t] t #[v,.slice (some ⟨H,0,none⟩) m m]).run Tryz.prog (w.alloc (.cells news.toArray e))=.ok v' w'∧w'.ownsRow B e size v' (n+m) (xs++news)∧Below B w w':=by
 subst hH
 have hb1:Below B w (w.alloc (.cells news.toArray e)):=(Below.refl _ _).alloc hB _
 obtain ⟨v',w',hr,h2,h3⟩:=app_old he (ho.alloc _) (w:=w.alloc (.cells news.toArray e)) (by simp; omega) ⟨w.heap.size,0,none⟩ m m news hl (fun j u hu=>by
  rw [Addr.add_mid,Nat.zero_add,World.cell?_alloc_mark]
  simpa using hu) h1 hn
 exact ⟨v',w',hr,h2,hb1.trans h3⟩
section
variable {P:Program}{ops:Array Oper}{rest:List Oper}{a:Act}{w w':World}{Q:Exit→Act→World→Prop}{dst:Option Tmp}{ty:TypeId}{pos:String}{after:Array Edge}
theorem wpl_append (d s:Operand)(t:TypeId)(p v:Value)(r:Value)(hd:a.eval d=p)(hs:a.eval s=v)(hr:(Builtin.append_ #[t,t] ty #[p,v]).run P w=.ok r w')(h:wpList P ops Q rest (a.put dst r) w') :
  wpList P ops Q ({ dst:=dst,op:=.call { callee:=.builtin .append,args:=#[d,s],argTypes:=#[t,t] },type:=ty,pos:=pos,after:=after,guard:=none } :: rest) a w :=
 wpList_plain rfl fun K hK=>by
  unfold Oper.wp execOp
  simp only [resolve,invoke,builtin,Sem.run_bind,Sem.run_pure,Result.andThen_ok,List.map_toArray,List.map_cons,List.map_nil,hd,hs,hr]
  exact hK _ _ h
end
def bcells (l:List Nat):List Value:=l.map fun (x:Nat)=>Value.int .u8 (x:Int)
theorem bcells_app (l r:List Nat):bcells (l++r)=bcells l++bcells r:=by simp [bcells]
theorem bcells_one (l:List Nat):∀ u∈bcells l,u.oneCell'=true:=by
 intro u hu
 obtain ⟨i,_,rfl⟩:=List.mem_map.1 hu
 rfl
theorem bcells_length (l:List Nat):(bcells l).length=l.length:=by simp [bcells]
def sliceLen:Value→Nat
 | .slice _ n _=>n
 | _=>0
theorem app_more {t e size bytes:Nat}(he:Elem t e size bytes){w:World}{B n:Nat}{v:Value}{xs:List Value} (ho:w.ownsRow B e size v n xs) (hB:B≤w.heap.size) (a:Addr) (m c:Nat) (news:List Value) (hl:news.length=m * size)
  (hnews:∀ j u,news[j]?=some u→w.cell? (a.add j)=some u) (h1:∀ u∈news,u.oneCell'=true) (hn:n+m≤1000000) :
  ∃ v' w',(Builtin.append_ #[t,t] t #[v,.slice (some a) m c]).run Tryz.prog w=.ok v' w'∧w'.ownsRow B e size v' (n+m) (xs++news)∧Below B w w'∧w.grownBy w' v.ownBlock∧(v'.ownBlock=v.ownBlock∨v'.ownBlock=some w.heap.size):=by
 obtain ⟨i,z,hi,hz,hsz,hby,hzs⟩:=he.info
 have hsm:=he.small
 have hb:(n+m) * bytes≤1000000 * 1000:=Nat.mul_le_mul hn hsm
 obtain ⟨v',w',hr,h2,h3,_,h5⟩:=run_append_own_at (P:=Tryz.prog) w B t t e i z size bytes he.sl hi hz hsz hby hzs he.pos v n xs ho a m c news hl hnews h1 (by unfold maxLen; omega) (by omega) hB
 exact ⟨v',w',hr,h2,((Keeps.refl (fun b=>v.ownBlock=some b) w).grown h3 (fun b e=>.inl e)).below B hB (fun b e=>(own_block ho b e).1),h3,h5⟩
def Kept (P:Program)(o:Oper)(a:Act)(w:World)(K:Act→World→Prop)(Q:Exit→Act→World→Prop):Prop:=Oper.wp P o a w K Q
section
variable {P:Program}{a:Act}{w w':World}{K:Act→World→Prop}{Q:Exit→Act→World→Prop}{dst:Option Tmp}{ty:TypeId}{pos:String}{after:Array Edge}{gd:Option (Nat×Bool)}
theorem kept_append (x y:Operand):Oper.wp P { dst:=dst,op:=.call { callee:=.builtin .append,args:=#[x,y],argTypes:=#[22,22] },type:=ty,pos:=pos,after:=after,guard:=gd } a w K Q=Kept P { dst:=dst,op:=.call { callee:=.builtin .append,args:=#[x,y],argTypes:=#[22,22] },type:=ty,pos:=pos,after:=after,guard:=gd } a w K Q:=rfl
theorem kept_append_intro (x y:Operand)(p q v:Value)(hx:a.eval x=p)(hy:a.eval y=q)(hr:(Builtin.append_ #[22,22] ty #[p,q]).run P w=.ok v w')(h:K (a.put dst v) w') :
  Kept P { dst:=dst,op:=.call { callee:=.builtin .append,args:=#[x,y],argTypes:=#[22,22] },type:=ty,pos:=pos,after:=after,guard:=gd } a w K Q:=by
 unfold Kept Oper.wp execOp
 simp only [resolve,invoke,builtin,Sem.run_bind,Sem.run_pure,Result.andThen_ok,List.map_toArray,List.map_cons,List.map_nil,hx,hy,hr]
 exact h
end
theorem own_shape {w:World}{B e size n:Nat}{v:Value}{xs:List Value} (h:w.ownsRow B e size v n xs):∃ a c,v=.slice a n c:=by
 rcases h.2 with ⟨rfl,rfl⟩ | ⟨g,cap,cur,rfl,_⟩
 ·exact ⟨_,_,rfl⟩
 ·exact ⟨_,_,rfl⟩
set_option maxHeartbeats 400000 in
theorem sameq_empty (a1 a2:Option Addr)(c1 c2:Nat)(w:World) :
  Calls Tryz.prog 15 #[.slice a1 0 c1,.slice a2 0 c2] w fun e w'=>e=.returned (.bool true)∧∃ m,w'=w.drewN m:=by
 go_enter Tryz.func15,Tryz.ntmps15
 go_wp2
 go_loopw [5] (fun i wq=>i=.int .i64 0∧wq=w) (fun i _=>0 - (intOf i).toNat)
 case atStart=>exact ⟨rfl,rfl⟩
 case round =>
  obtain ⟨rfl,rfl⟩:=hrel
  go_wp2
  go_ret
  exact ⟨rfl,0,rfl⟩
end Go.Proofs.YtogbjeaceboemaaGreatDoor
