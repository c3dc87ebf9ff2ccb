import Derived.Test.YtdojlejehjbliaaGreatDoorPA0
import Derived.Deep.QuietTactic
import Derived.BigQuiet
import Derived.ProofKit
import Derived.Deep.Slices
import Derived.SizedLaws
import Derived.ShutString
import Derived.ChangeOld
namespace Go.Proofs.YtdojlejehjbliaaGreatDoor
set_option maxHeartbeats 4000000
open _root_.Go.Value renaming slice → I,int → E
open _root_.List renaming getD_eq_getElem?_getD → J,length_append → M,length_take → O
open _root_.Go.Proofs.Tryz renaming prog → Z
open _root_.Option renaming none → Q,some → Y
open _root_.Nat renaming le_refl → U
open _root_.Go.World renaming block_lt_of_cell? → T
open _root_.Go.IntKind renaming i64 → L
open _root_.Go.Ending renaming returned → N
open Go.RowKit
set_option maxRecDepth 100000
def num (f:Nat→Nat):Nat:=f 0 * 16777216+f 1 * 65536+f 2 * 256+f 3
theorem Qt2 (f:Nat→Nat):num f=Qca f 0 4:=by
 simp only [num,Qca,Nat.zero_add,Nat.sub_zero,Nat.reduceSub,Nat.reduceMul,Nat.reducePow,Nat.mul_one,Nat.add_zero]
theorem Qf5 (b off len cap:Nat)(f:Nat→Nat)(w:World)(hl:4≤len)(hf:∀ i,i < 4→f i < 256)(hc:∀ i,i < 4→w.cell? ⟨b,off+i,Q⟩=Y (E .u8 (f i:Int))) :
  Calls Z 25 #[I (Y ⟨b,off,Q⟩) len cap] w fun e w'=>e=N (E L (num f:Int))∧∃ k,w'=w.drewN k:=by
 have h0:=hf 0 (by omega)
 have h1:=hf 1 (by omega)
 have h2:=hf 2 (by omega)
 have h3:=hf 3 (by omega)
 have c0:=hc 0 (by omega)
 have c1:=hc 1 (by omega)
 have c2:=hc 2 (by omega)
 have c3:=hc 3 (by omega)
 rw [Nat.add_zero] at c0
 have l0:(0:Int) < (len:Int):=by omega
 have l1:(1:Int) < (len:Int):=by omega
 have l2:(2:Int) < (len:Int):=by omega
 have l3:(3:Int) < (len:Int):=by omega
 have HN:Hid ((num f:Int)=(f 0:Int) * 16777216+(f 1:Int) * 65536+(f 2:Int) * 256+(f 3:Int)):=by show ((num f:Nat):Int)=_; unfold num; omega
 clear hc hf
 generalize f 0=x0 at *
 generalize f 1=x1 at *
 generalize f 2=x2 at *
 generalize f 3=x3 at *
 go_enter Tryz.func25,Tryz.ntmps25
 go_wp2_with fail
 go_quiet (fail)
 go_wp2
 go_ret
 exact ⟨Qfu HN.out.symm,nq,rfl⟩
def b4 (z:Int):List Nat:=(List.range 4).map (Qyb z.toNat)
def nums:List Int→List Nat
 | []=>[]
 | z :: r=>b4 z++nums r
theorem Qvj (l:List Int)(z:Int):nums (l++[z])=nums l++b4 z:=by
 induction l with
 | nil=>simp [nums]
 | cons a l ih=>simp only [List.cons_append,nums,ih,List.append_assoc]
theorem Quj (z:Int):(b4 z).length=4:=by simp [b4]
theorem Qpo (l:List Int):(nums l).length=4 * l.length:=by
 induction l with
 | nil=>rfl
 | cons a l ih=>simp only [nums,M,Quj,ih,List.length_cons]; omega
def Qx3 (b:Bool):Nat:=if b then 1 else 2
def Qn6 (s:Bool×List Int):List Nat:=[Qx3 s.1,s.2.length]++nums s.2
def encSegs:List (Bool×List Int)→List Nat
 | []=>[]
 | s :: r=>Qn6 s++encSegs r
theorem Qm9 (l:List (Bool×List Int))(s:Bool×List Int):encSegs (l++[s])=encSegs l++Qn6 s:=by
 induction l with
 | nil=>simp [encSegs]
 | cons a l ih=>simp only [List.cons_append,encSegs,ih,List.append_assoc]
theorem Qkm (l:List (Bool×List Int)):(encSegs l).length=2 * l.length+4 * sumP l:=by
 induction l with
 | nil=>rfl
 | cons a l ih=>simp only [encSegs,Qn6,M,Qpo,ih,List.length_cons,sumP,List.length_nil]; omega
def Ql2 (ss:List (Bool×List Int)):List Nat:=if Qd3 ss then encSegs ss else []
theorem Qbs {w:World}{B e size n:Nat}{v:Value}{xs:List Value} (h:w.ownsRow B e size v n xs):∃ a c,v=I a n c:=by
 rcases h.2 with ⟨rfl,rfl⟩ | ⟨g,cap,cur,rfl,_⟩
 ·exact ⟨_,_,rfl⟩
 ·exact ⟨_,_,rfl⟩
theorem Qpl (a1 a2:Option Addr)(c1 c2:Nat)(w:World) :
  Calls Z 28 #[I a1 0 c1,I a2 0 c2] w fun e w'=>e=N (.bool true)∧∃ m,w'=w.drewN m:=by
 go_enter Tryz.func28,Tryz.ntmps28
 go_wp2
 go_loopw [5] (fun i wq=>i=E L 0∧wq=w) (fun i _=>0 - (intOf i).toNat)
 case atStart=>exact ⟨rfl,rfl⟩
 case round =>
  obtain ⟨rfl,rfl⟩:=hrel
  go_wp2
  go_ret
  exact ⟨rfl,0,rfl⟩
def BRd (w:World)(a:Option Addr)(bs:List Nat):Prop:=Rw w a bs.length (fun j=>bs.getD j 0)∧∀ x∈bs,x < 256
theorem BRd.below {w w':World}{a:Option Addr}{bs:List Nat} (h:BRd w a bs) (hb:Below w.heap.size w w'):BRd w' a bs:=⟨h.1.below hb,h.2⟩
theorem append_nil {t e size bytes:Nat}(he:Qsr t e size bytes)(w:World)(b:Addr)(n cap c:Nat)(hn:n≤cap) :
  (Builtin.append_ #[t,t] t #[I (Y b) n cap,I Q 0 c]).run Z w=.ok (I (Y b) n cap) w:=by
 obtain ⟨i,z,hi,_⟩:=he.info
 have ht:=he.sl
 simp [Builtin.append_,run_underlying ht,sizeOf,typeInfo,hi,hn,Builtin.lenOf,Builtin.firstCells,go_sem,storeCells]
theorem Qmc {w:World}{B g n k:Nat}{ys:List Nat} (zs:List Nat) (a:Option Addr) (c:Nat) (hn:ys.length=n) (ho:w.ownsRow B 5 1 (I (Y ⟨g,0,Q⟩) n k) n (Qal ys)) (hB:B≤w.heap.size) (hl:n+zs.length≤500000) (h:BRd w a zs) :
  ∃ v' w',(Builtin.append_ #[22,22] 22 #[I (Y ⟨g,0,Q⟩) n k,I a zs.length c]).run Z w=.ok v' w'∧w'.ownsRow B 5 1 v' (ys++zs).length (Qal (ys++zs))∧Below B w w':=by
 have key:∀ ad:Addr,a=Y ad→(∀ j x,(Qal zs)[j]?=Y x→w.cell? (ad.add j)=Y x)→∃ v' w',(Builtin.append_ #[22,22] 22 #[I (Y ⟨g,0,Q⟩) n k,I a zs.length c]).run Z w=.ok v' w'∧w'.ownsRow B 5 1 v' (ys++zs).length (Qal (ys++zs))∧Below B w w':=by
  intro ad e hc
  subst e
  obtain ⟨v',w',hr,h2,h3,_,_⟩:=Qe7 elemU8 ho hB ad zs.length c (Qal zs) (by rw [Qbd]; omega) hc (Qfk _) (by omega)
  exact ⟨v',w',hr,by rw [Qfo,M,hn]; exact h2,h3⟩
 cases a with
 | none =>
  have h0:zs=[]:=by
   cases zs with
   | nil=>rfl
   | cons z r=>obtain ⟨b,off,e,_⟩:=h.1.2 (by simp); cases e
  subst h0
  have hk:n≤k:=by
   rcases ho.2 with ⟨e,_⟩ | ⟨g',cap,cur,e,_,_,h1,_⟩
   ·cases e
   ·simp only [Value.slice.injEq] at e
    obtain ⟨_,_,rfl⟩:=e
    exact h1
  exact ⟨_,w,append_nil elemU8 w _ n k c hk,by rw [List.append_nil,hn]; exact ho,Below.refl _ _⟩
 | some ad =>
  cases zs with
  | nil=>exact key ad rfl (fun j x hx=>by simp [Qal] at hx)
  | cons y r =>
   obtain ⟨b,off,e,hc⟩:=h.1.2 (by simp)
   refine key ad rfl (fun j x hx=>?_)
   cases e
   have hj:j < (y :: r).length:=by have:=(List.getElem?_eq_some_iff.1 hx).1; rwa [Qbd] at this
   have h5:=hc j hj
   rw [Addr.add_mid,h5]
   have h6:(Qal (y :: r))[j]?=Y (E .u8 (((y :: r).getD j 0:Nat):Int)):=by
    simp only [Qal,List.getElem?_map,List.getElem?_eq_getElem hj,Option.map_some,J,Option.getD_some]
   rw [h6] at hx
   exact hx
theorem Qic {w:World}{B:Nat}{v:Value}{bs:List Nat} (h:w.ownsRow B 5 1 v bs.length (Qal bs)) (hl:bs.length≤500000) (hb:∀ x∈bs,x < 256):∃ a c,v=I a bs.length c∧bs.length≤c∧BRd w a bs:=by
 have hh:=h
 rcases h.2 with ⟨rfl,h0⟩ | ⟨g,cap,cur,rfl,_,_,hc,_⟩
 ·exact ⟨Q,0,by rw [h0],by omega,by rw [h0]; exact Rw.nil _ _ _,hb⟩
 ·refine ⟨_,_,rfl,hc,⟨by unfold maxLen; omega,fun _=>⟨g,0,rfl,fun i hi=>?_⟩⟩,hb⟩
  rw [Nat.zero_add,hh.cellAt i (by omega)]
  simp [Qal,J,hi]
theorem Qan {w:World}{B B' e size n:Nat}{v:Value}{xs:List Value} (h:w.ownsRow B e size v n xs) (hB:B'≤B):w.ownsRow B' e size v n xs:=by
 refine ⟨h.1,?_⟩
 rcases h.2 with hh | ⟨g,cap,cur,e1,hg,rest⟩
 ·exact .inl hh
 ·exact .inr ⟨g,cap,cur,e1,by omega,rest⟩
theorem Qdx {w w':World}{B e size n:Nat}{v:Value}{xs:List Value}{row:Option Nat} (h:w.ownsRow B e size v n xs) (hg:w.grownBy w' row) (hne:∀ b,v.ownBlock=Y b→row≠Y b):w'.ownsRow B e size v n xs:=by
 refine ⟨h.1,?_⟩
 rcases h.2 with hh | ⟨g,cap,cur,e1,hb,hc,rest⟩
 ·exact .inl hh
 ·refine .inr ⟨g,cap,cur,e1,hb,?_,rest⟩
  rw [hg.block g (Array.getElem?_eq_some_iff.1 hc).1 (fun e=>hne g (by rw [e1]; rfl) e.symm)]
  exact hc
theorem Qdq {w:World}{B B' e e' size size' n n':Nat}{v v':Value}{xs xs':List Value} (h:w.ownsRow B e size v n xs) (h':w.ownsRow B' e' size' v' n' xs') (hne:e≠e') (b:Nat) (hb:v.ownBlock=Y b):v'.ownBlock≠Y b:=by
 intro hb'
 rcases h.2 with ⟨rfl,_⟩ | ⟨g,cap,cur,rfl,_,hc,_⟩
 ·simp [Value.ownBlock] at hb
 ·rcases h'.2 with ⟨rfl,_⟩ | ⟨g',cap',cur',rfl,_,hc',_⟩
  ·simp [Value.ownBlock] at hb'
  ·simp [Value.ownBlock] at hb hb'
   subst hb hb'
   rw [hc] at hc'
   simp at hc'
   exact hne hc'.2
structure At where
 origin:Int
 path:List (Bool×List Int)
 next:Nat
 med:Int
 pref:Int
 comms:List Nat
 raws:List (Int×Int×List Nat)
def Qk0 (n:Nat):Bool:=decide (n≠0∧n / 16777216≠127∧n / 16777216 < 224)
def Jaf (r:Int×Int×List Nat):Bool:=decide (r.2.1=6∧r.1=64∧r.2.2.length=0∨r.2.1=7∧r.1=192∧r.2.2.length=8∨8 < r.2.1∧r.2.1≤255∧r.1=224∧r.2.2.length≤255)
def Qsv (rs:List (Int×Int×List Nat))(i:Nat):Int:=(rs.getD i (0,0,[])).2.1
def Qqt (rs:List (Int×Int×List Nat)):Nat→Bool
 | 0=>true
 | k+1=>Qqt rs k && Jaf (rs.getD k (0,0,[])) && (decide (k=0) || decide (Qsv rs (k - 1) < Qsv rs k))
def Ja1 (a:At):Bool:=decide (0≤a.origin∧a.origin≤2) && Qd3 a.path && Qk0 a.next && decide (-1≤a.med∧a.med≤4294967295) && decide (-1≤a.pref∧a.pref≤4294967295) && decide (a.comms.length≤32)
def Qv4 (a:At):Bool:=Ja1 a && Qqt a.raws a.raws.length
def CRd (w:World)(a:Option Addr)(cs:List Nat):Prop:=0 < cs.length→∃ b off,a=Y ⟨b,off,Q⟩∧∀ (j z:Nat),cs[j]?=Y z→w.cell? ⟨b,off+j,Q⟩=Y (E .u32 (z:Int))
theorem CRd.below {w w':World}{a:Option Addr}{cs:List Nat} (h:CRd w a cs) (hb:Below w.heap.size w w'):CRd w' a cs:=fun hp=>by
 obtain ⟨b,off,rfl,hc⟩:=h hp
 exact ⟨b,off,rfl,fun j z hj=>by rw [hb.cell (p:=⟨b,off+j,Q⟩) (T w _ (hc j z hj))]; exact hc j z hj⟩
def Qw9 (w:World)(b off:Nat)(rs:List (Int×Int×List Nat)):Prop :=
 ∀ i r,rs[i]?=Y r→w.cell? ⟨b,off+i * 3,Q⟩=Y (E L r.1)∧w.cell? ⟨b,off+i * 3+1,Q⟩=Y (E L r.2.1)∧∃ a' c',w.cell? ⟨b,off+i * 3+2,Q⟩=Y (I a' r.2.2.length c')∧r.2.2.length≤c'∧BRd w a' r.2.2
theorem Qw9.below {w w':World}{b off:Nat}{rs:List (Int×Int×List Nat)} (h:Qw9 w b off rs) (hb:Below w.heap.size w w'):Qw9 w' b off rs:=fun i r hi=>by
 obtain ⟨h1,h2,a',c',h3,h4,h5⟩:=h i r hi
 exact ⟨by rw [hb.cell (p:=⟨b,off+i * 3,Q⟩) (T w _ h1)]; exact h1,by rw [hb.cell (p:=⟨b,off+i * 3+1,Q⟩) (T w _ h2)]; exact h2,a',c',by rw [hb.cell (p:=⟨b,off+i * 3+2,Q⟩) (T w _ h3)]; exact h3,h4,h5.below hb⟩
def Qpf (w:World)(a:Option Addr)(rs:List (Int×Int×List Nat)):Prop:=0 < rs.length→∃ b off,a=Y ⟨b,off,Q⟩∧Qw9 w b off rs
theorem Qpf.below {w w':World}{a:Option Addr}{rs:List (Int×Int×List Nat)} (h:Qpf w a rs) (hb:Below w.heap.size w w'):Qpf w' a rs:=fun hp=>by
 obtain ⟨b,off,rfl,hc⟩:=h hp
 exact ⟨b,off,rfl,hc.below hb⟩
def sumR:List (Int×Int×List Nat)→Nat
 | []=>0
 | r :: l=>r.2.2.length+sumR l
theorem Qqj (l:List (Int×Int×List Nat))(r:Int×Int×List Nat)(h:r∈l):r.2.2.length≤sumR l:=by
 induction l with
 | nil=>simp at h
 | cons a l ih =>
  simp only [sumR]
  rcases List.mem_cons.1 h with rfl | h
  ·omega
  ·have:=ih h; omega
structure Jaa (w:World) (pa ca ra:Option Addr) (a:At):Prop where
 path:Qmt w pa a.path
 comms:CRd w ca a.comms
 raws:Qpf w ra a.raws
 next:a.next < 4294967296
theorem Jaa.below {w w':World}{pa ca ra:Option Addr}{a:At} (h:Jaa w pa ca ra a) (hb:Below w.heap.size w w'):Jaa w' pa ca ra a:=⟨h.path.below hb,h.comms.below hb,h.raws.below hb,h.next⟩
def atV (pa:Option Addr)(pc:Nat)(ca:Option Addr)(cc:Nat)(ra:Option Addr)(rc:Nat)(a:At):Value :=
 .agg #[E L a.origin,I pa a.path.length pc,E .u32 (a.next:Int),E L a.med,E L a.pref,I ca a.comms.length cc,I ra a.raws.length rc]
def Qh2 (a:At):Nat:=a.path.length+sumP a.path+a.comms.length+a.raws.length+sumR a.raws
open Go.RowKit Go.ChangeShapes Go.WideShapes Go.ChangeAt
theorem bytesU32:Z.bytesOf 24=4:=by kernel_rfl
theorem bytesU8:Z.bytesOf 5=1:=by kernel_rfl
theorem Jbz {H:Type}{enc:TypeId×Value→H}{W:World}{fuel:Nat}{v:Value}{x:DataW H×List MemPlace} (h:DataW.trod enc Z W 0 (fun _=>true) true fuel 31 [v]=Y x) :
  ∃ (a:Option Addr) (c:Nat) (zs:List Nat),v=I a zs.length c∧zs.length≤c∧CRd W a zs∧(∀ z∈zs,z < 4294967296)∧zs.length≤maxLen∧∀ R,(∀ n∈x.1.weights Z 31,n≤R)→zs.length * 4≤R:=by
 have k1:Z.cellsOf 24=1:=by kernel_rfl
 rcases Go.Deep.open_slice1 Tryz.underlying31 k1 h with ⟨e,_⟩ | ⟨y,l,c,m,n,V,D,Pl,e,_,hl,hm,hmm,hxe,hx⟩
 ·simp at e
  subst e
  exact ⟨Q,0,[],rfl,U _,fun h=>absurd h (by simp),fun z hz=>by simp at hz,by simp,fun R _=>by simp⟩
 ·simp at e
  subst e
  simp at hmm
  subst hmm
  have hq:∀ i,i < l→∃ z:Nat,W.cell? (y.add i)=Y (E .u32 (z:Int))∧z < 4294967296:=fun i hi=>by
   obtain ⟨h1,h2⟩:=hx i (by omega)
   obtain ⟨z,e0,_,hw⟩:=DataW.trod_int Tryz.underlying24 h2
   have hb:=bounds_u32 hw
   simp at e0
   obtain ⟨q,rfl⟩:=Int.eq_ofNat_of_zero_le hb.1
   exact ⟨q,by rw [h1,e0],by omega⟩
  obtain ⟨F,hF⟩:∃ F:Nat→Nat,∀ i,i < l→W.cell? (y.add i)=Y (E .u32 ((F i:Nat):Int))∧F i < 4294967296 :=
   ⟨fun i=>if h:i < l then Classical.choose (hq i h) else 0,fun i hi=>by
    simp only [dif_pos hi]
    exact Classical.choose_spec (hq i hi)⟩
  have hsp:0 < l→∃ b off,y=⟨b,off,Q⟩:=fun hp2=>by
   obtain ⟨b,off,spot⟩:=y
   have hs:spot=Q:=by simpa [Addr.add] using World.cell?_spot (hF 0 hp2).1
   subst hs
   exact ⟨b,off,rfl⟩
  refine ⟨Y y,m,(List.range l).map F,by simp,by simpa using hl,?_,fun z hz=>?_,by simp; omega,fun R hR=>?_⟩
  ·intro hp
   obtain ⟨b,off,rfl⟩:=hsp (by simpa using hp)
   refine ⟨b,off,rfl,fun j z hj=>?_⟩
   have hjl:j < l:=by
    have:=(List.getElem?_eq_some_iff.1 hj).1
    simpa using this
   have e:z=F j:=by
    have:=(List.getElem?_eq_some_iff.1 hj).2
    simpa using this.symm
   have:=(hF j hjl).1
   rw [Addr.add_mid] at this
   rw [e]
   exact this
  ·obtain ⟨i,hi,rfl⟩:=List.mem_map.1 hz
   exact (hF i (by simpa using hi)).2
  ·subst hxe
   have h9:=hR _ (by simp only [DataW.weights,Tryz.underlying31]; exact List.mem_cons_self ..)
   rw [bytesU32] at h9
   simp only [List.length_map,List.length_range] at h9 ⊢
   exact Nat.le_trans (Nat.mul_le_mul_right 4 (Nat.le_add_right l _)) h9
theorem Qq1 {H:Type}{enc:TypeId×Value→H}{W:World}{fuel:Nat}{v:Value}{x:DataW H×List MemPlace} (h:DataW.trod enc Z W 0 (fun _=>true) true fuel 22 [v]=Y x) :
  ∃ (a:Option Addr) (c:Nat) (zs:List Nat),v=I a zs.length c∧zs.length≤c∧Rw W a zs.length (fun j=>zs.getD j 0)∧(∀ z∈zs,z < 256)∧zs.length≤maxLen∧∀ R,(∀ n∈x.1.weights Z 22,n≤R)→zs.length * 1≤R:=by
 have k1:Z.cellsOf 5=1:=by kernel_rfl
 rcases Go.Deep.open_slice1 Tryz.underlying22 k1 h with ⟨e,_⟩ | ⟨y,l,c,m,n,V,D,Pl,e,_,hl,hm,hmm,hxe,hx⟩
 ·simp at e
  subst e
  exact ⟨Q,0,[],rfl,U _,Rw.nil _ _ _,fun z hz=>by simp at hz,by simp,fun R _=>by simp⟩
 ·simp at e
  subst e
  simp at hmm
  subst hmm
  have hq:∀ i,i < l→∃ z:Nat,W.cell? (y.add i)=Y (E .u8 (z:Int))∧z < 256:=fun i hi=>by
   obtain ⟨h1,h2⟩:=hx i (by omega)
   obtain ⟨z,e0,_,hw⟩:=DataW.trod_int Tryz.underlying5 h2
   have hb:=bounds_u8 hw
   simp at e0
   obtain ⟨q,rfl⟩:=Int.eq_ofNat_of_zero_le hb.1
   exact ⟨q,by rw [h1,e0],by omega⟩
  obtain ⟨F,hF⟩:∃ F:Nat→Nat,∀ i,i < l→W.cell? (y.add i)=Y (E .u8 ((F i:Nat):Int))∧F i < 256 :=
   ⟨fun i=>if h:i < l then Classical.choose (hq i h) else 0,fun i hi=>by
    simp only [dif_pos hi]
    exact Classical.choose_spec (hq i hi)⟩
  have hsp:0 < l→∃ b off,y=⟨b,off,Q⟩:=fun hp2=>by
   obtain ⟨b,off,spot⟩:=y
   have hs:spot=Q:=by simpa [Addr.add] using World.cell?_spot (hF 0 hp2).1
   subst hs
   exact ⟨b,off,rfl⟩
  refine ⟨Y y,m,(List.range l).map F,by simp,by simpa using hl,?_,fun z hz=>?_,by simp; omega,fun R hR=>?_⟩
  ·refine ⟨by simp; omega,fun hp=>?_⟩
   obtain ⟨b,off,rfl⟩:=hsp (by simpa using hp)
   refine ⟨b,off,rfl,fun j hj=>?_⟩
   have hjl:j < l:=by simpa using hj
   have:=(hF j hjl).1
   rw [Addr.add_mid] at this
   rw [this]
   simp [J,hjl]
  ·obtain ⟨i,hi,rfl⟩:=List.mem_map.1 hz
   exact (hF i (by simpa using hi)).2
  ·subst hxe
   have h9:=hR _ (by simp only [DataW.weights,Tryz.underlying22]; exact List.mem_cons_self ..)
   rw [bytesU8] at h9
   simp only [List.length_map,List.length_range] at h9 ⊢
   exact Nat.le_trans (Nat.mul_le_mul_right 1 (Nat.le_add_right l _)) h9
open Go.ChangeShapes Go.WideShapes Go.ChangeAt Go.RowKit
theorem ownKnob_no:ownKnob Z.godebug=Q:=by kernel_rfl
theorem laid_all:laidOutB Z=true:=by kernel_rfl
theorem Qpb {x y:List Nat}{n:Nat} (hx:x.length=n) (hy:y.length=n) (h:x.take n=y.take n):x=y:=by
 rwa [List.take_of_length_le (by omega),List.take_of_length_le (by omega)] at h
theorem Qsj (b1 o1 b2 o2 len c1 c2:Nat)(x y:List Nat)(w:World)(hx:x.length=len)(hy:y.length=len)(hm:len≤1000000)
  (h1:∀ i,i < len→w.cell? ⟨b1,o1+i,Q⟩=Y (E .u8 ((x.getD i 0:Nat):Int))) (h2:∀ i,i < len→w.cell? ⟨b2,o2+i,Q⟩=Y (E .u8 ((y.getD i 0:Nat):Int))) :
  Calls Z 28 #[I (Y ⟨b1,o1,Q⟩) len c1,I (Y ⟨b2,o2,Q⟩) len c2] w fun e w'=>e=N (.bool (decide (x=y)))∧∃ m,w'=w.drewN m:=by
 have H1:=Qaa h1
 have H2:=Qaa h2
 have HX:=Qaa hx
 have HY:=Qaa hy
 clear h1 h2 hx hy
 go_enter Tryz.func28,Tryz.ntmps28
 go_wp2
 go_loopw [5] (fun i wq=>∃ k m:Nat,k≤len∧i=E L k∧Hid (wq=w.drewN m)∧Hid (x.take k=y.take k)) (fun i _=>len - (intOf i).toNat)
 case atStart=>exact ⟨0,0,Nat.zero_le _,rfl,rfl,rfl⟩
 case round =>
  obtain ⟨k,m,hk,rfl,HW,HT⟩:=hrel
  by_cases hlt:k < len
  ·have hkx:k < x.length:=by rw [HX.out]; exact hlt
   have hky:k < y.length:=by rw [HY.out]; exact hlt
   have ex:x.getD k 0=x[k]:=by rw [J,List.getElem?_eq_getElem hkx]; rfl
   have ey:y.getD k 0=y[k]:=by rw [J,List.getElem?_eq_getElem hky]; rfl
   have c1:wr.cell? ⟨b1,o1+k,Q⟩=Y (E .u8 ((x[k]:Nat):Int)):=by rw [HW.out,Qay,← ex]; exact H1.out k hlt
   have c2:wr.cell? ⟨b2,o2+k,Q⟩=Y (E .u8 ((y[k]:Nat):Int)):=by rw [HW.out,Qay,← ey]; exact H2.out k hlt
   have HTX:Hid (x.take (k+1)=x.take k++[x[k]]):=List.take_succ_eq_append_getElem hkx
   have HTY:Hid (y.take (k+1)=y.take k++[y[k]]):=List.take_succ_eq_append_getElem hky
   have HNE:Hid (x[k]≠y[k]→decide (x=y)=false):=fun h=>decide_eq_false (fun e=>by subst e; exact h rfl)
   clear ex ey
   generalize x[k]=p at *
   generalize y[k]=q at *
   have hk0:(0:Int)≤(k:Int):=Int.natCast_nonneg _
   have hk1:(k:Int) < (len:Int):=by omega
   by_cases hpq:p=q
   ·subst hpq
    have HT2:Hid (x.take (k+1)=y.take (k+1)):=by show x.take (k+1)=_; rw [HTX.out,HTY.out,HT.out]
    clear HNE HTX HTY
    go_wp2_with fail
    go_quiet (fail)
    go_wp2
    exact ⟨⟨k+1,m+nq,by omega,by go_num,show wr.drewN nq=_ by rw [HW.out,Qc1],HT2⟩,by simp [intOf]; omega⟩
   ·have HF:=Qaa (HNE.out hpq)
    have hpi:((p:Int) != (q:Int))=true:=by simp; omega
    have hpn:(p != q)=true:=by simpa using hpq
    clear HNE HTX HTY
    go_wp2_with fail
    go_quiet (fail)
    go_wp2
    go_ret
    exact ⟨Qa8 HF.out.symm,m+nq,by rw [HW.out,Qc1]⟩
  ·have HF:Hid (decide (x=y)=true):=by
    have hkl:k=len:=by omega
    have h9:=HT.out
    rw [hkl] at h9
    exact decide_eq_true (Qpb HX.out HY.out h9)
   go_wp2
   go_ret
   exact ⟨Qa8 HF.out.symm,m,HW.out⟩
theorem Qtl (a1 a2:Option Addr)(n1 n2 c1 c2:Nat)(w:World)(h:n1≠n2):Calls Z 28 #[I a1 n1 c1,I a2 n2 c2] w fun e w'=>e=N (.bool false)∧∃ m,w'=w.drewN m:=by
 have hi:((n1:Int) != (n2:Int))=true:=by simp; omega
 have hn:(n1 != n2)=true:=by simpa using h
 go_enter Tryz.func28,Tryz.ntmps28
 go_wp2
 go_ret
 exact ⟨rfl,0,rfl⟩
theorem Qnv (a1 a2:Option Addr)(c1 c2:Nat)(x y:List Nat)(w:World)(hl:x.length≤1000000)(h1:BRd w a1 x)(h2:BRd w a2 y) :
  Calls Z 28 #[I a1 x.length c1,I a2 y.length c2] w fun e w'=>e=N (.bool (decide (x=y)))∧∃ m,w'=w.drewN m:=by
 by_cases hle:x.length=y.length
 ·by_cases h0:x.length=0
  ·have hx:x=[]:=List.length_eq_zero_iff.1 h0
   have hy:y=[]:=List.length_eq_zero_iff.1 (by omega)
   subst hx hy
   exact Qpl a1 a2 c1 c2 w
  ·obtain ⟨b1,o1,rfl,hc1⟩:=h1.1.2 (by omega)
   obtain ⟨b2,o2,rfl,hc2⟩:=h2.1.2 (by omega)
   rw [← hle]
   exact Qsj b1 o1 b2 o2 _ c1 c2 x y w rfl hle.symm hl hc1 (fun i hi=>hc2 i (by omega))
 ·rw [decide_eq_false (fun e=>hle (by rw [e]))]
  exact Qtl a1 a2 _ _ c1 c2 w hle
theorem Qit (p q r s:Int)(a1 a2:Option Addr)(c1 c2:Nat)(x y:List Nat)(w:World)(hl:x.length≤1000000)(h1:BRd w a1 x)(h2:BRd w a2 y) :
  Calls Z 9 #[.agg #[E L p,E L q,I a1 x.length c1],.agg #[E L r,E L s,I a2 y.length c2]] w fun e w'=>e=N (.bool (decide (p=r∧q=s∧x=y)))∧Below w.heap.size w w':=by
 have hb:∀ o1 o2,Below w.heap.size w ((w.alloc o1).alloc o2):=fun o1 o2=>((Below.refl _ _).alloc (U _) _).alloc (by simp) _
 have K:Hid (∀ o1 o2,Calls Z 28 #[I a1 x.length c1,I a2 y.length c2] ((w.alloc o1).alloc o2) fun e w'=>e=N (.bool (decide (x=y)))∧∃ m,w'=((w.alloc o1).alloc o2).drewN m):=fun o1 o2=>Qnv a1 a2 c1 c2 x y _ hl (h1.below (hb o1 o2)) (h2.below (hb o1 o2))
 by_cases e1:p=r
 ·subst e1
  by_cases e2:q=s
  ·subst e2
   have HD:Hid (decide (p=p∧q=q∧x=y)=decide (x=y)):=by show decide _=_; simp
   rw [HD.out]
   clear HD h1 h2
   generalize decide (x=y)=d at *
   generalize x.length=n1 at *
   generalize y.length=n2 at *
   go_enter Tryz.func9,Tryz.ntmps9
   go_wp2_with fail
   refine (K.out _ _).mono ?_
   rintro e w1 ⟨rfl,m,rfl⟩
   go_wp2
   go_ret
   exact ⟨rfl,Qaj (hb _ _) m⟩
  ·have HD:Hid (decide (p=p∧q=s∧x=y)=false):=decide_eq_false (fun h=>e2 h.2.1)
   rw [HD.out]
   have f2:(q == s)=false:=by simpa using e2
   clear HD h1 h2 K
   generalize x.length=n1 at *
   generalize y.length=n2 at *
   go_enter Tryz.func9,Tryz.ntmps9
   go_wp2
   go_ret
   exact ⟨rfl,hb _ _⟩
 ·have HD:Hid (decide (p=r∧q=s∧x=y)=false):=decide_eq_false (fun h=>e1 h.1)
  rw [HD.out]
  have f1:(p == r)=false:=by simpa using e1
  clear HD h1 h2 K
  generalize x.length=n1 at *
  generalize y.length=n2 at *
  go_enter Tryz.func9,Tryz.ntmps9
  go_wp2
  go_ret
  exact ⟨rfl,hb _ _⟩
theorem Qac {w:World}{B e size n X:Nat}{v:Value}{xs:List Value} (h:w.ownsRow B e size v n xs) (hX:X < B) (j:Nat) (u:Value):(w.setCell ⟨X,j,Q⟩ u).ownsRow B e size v n xs:=by
 refine ⟨h.1,?_⟩
 rcases h.2 with hh | ⟨g,cap,cur,ev,hg,hc,rest⟩
 ·exact .inl hh
 ·refine .inr ⟨g,cap,cur,ev,hg,?_,rest⟩
  rw [Qbk w X j _ g (by omega)]
  exact hc
theorem Qa0 {w:World}{B B' e size n:Nat}{v:Value}{xs:List Value} (h:w.ownsRow B e size v n xs) (hB:B'≤B):w.ownsRow B' e size v n xs:=by
 refine ⟨h.1,?_⟩
 rcases h.2 with hh | ⟨g,cap,cur,ev,hg,rest⟩
 ·exact .inl hh
 ·exact .inr ⟨g,cap,cur,ev,Nat.le_trans hB hg,rest⟩
section
attribute [local go_sem ↓] Qey
theorem Qa9 (c s:Int)(a:Option Addr)(cap:Nat)(d:List Nat)(w:World)(hl:d.length≤100000)(h:BRd w a d) :
  Calls Z 23 #[E L c,E L s,I a d.length cap] w fun e w'=>∃ a9 c9,e=N (.agg #[E L c,E L s,I a9 d.length c9])∧w'.ownsRow w.heap.size 5 1 (I a9 d.length c9) d.length (Qal d)∧Below w.heap.size w w':=by
 obtain ⟨w1,hw1⟩:∃ w1,w1=w.alloc (.cells #[E L 0,E L 0,I Q 0 0] 38):=⟨_,rfl⟩
 have hb1:Below w.heap.size w w1:=by rw [hw1]; exact (Below.refl _ _).alloc (U _) _
 have hs1:w1.heap.size=w.heap.size+1:=by rw [hw1]; simp
 have hb2:Below w1.heap.size w1 (w1.alloc (.cells #[] 5)):=(Below.refl _ _).alloc (U _) _
 have hm:(w1.alloc (.cells #[] 5)).ownsRow w1.heap.size 5 1 (I (Y ⟨w1.heap.size,0,Q⟩) 0 0) 0 (Qal []) :=
  ⟨rfl,.inr ⟨w1.heap.size,0,_,rfl,U _,by unfold World.alloc; exact Array.getElem?_push_size,U _,by unfold maxLen; omega,rfl,rfl⟩⟩
 obtain ⟨v',w3,hr,ho,hb3⟩:=Qmc (n:=0) (ys:=[]) d a cap rfl hm hb2.size (by omega) ((h.below hb1).below hb2)
 obtain ⟨a9,c9,rfl⟩:=Qbs ho
 have hlen:(([]:List Nat)++d).length=d.length:=rfl
 rw [hlen] at hr
 have HO:Hid (w3.ownsRow w1.heap.size 5 1 (I a9 d.length c9) d.length (Qal d)):=ho
 have hb13:Below w1.heap.size w1 w3:=hb2.trans hb3
 have r0:w3.cell? ⟨w.heap.size,0,Q⟩=Y (E L 0):=by rw [hb13.cell (p:=⟨w.heap.size,0,Q⟩) (by show w.heap.size < _; omega),hw1]; simp [go_sem]
 have r1:w3.cell? ⟨w.heap.size,1,Q⟩=Y (E L 0):=by rw [hb13.cell (p:=⟨w.heap.size,1,Q⟩) (by show w.heap.size < _; omega),hw1]; simp [go_sem]
 have r2:w3.cell? ⟨w.heap.size,2,Q⟩=Y (I Q 0 0):=by rw [hb13.cell (p:=⟨w.heap.size,2,Q⟩) (by show w.heap.size < _; omega),hw1]; simp [go_sem]
 have f0:w3.frozen? ⟨w.heap.size,0,Q⟩=false:=by rw [hb13.frozen (p:=⟨w.heap.size,0,Q⟩) (by show w.heap.size < _; omega),hw1]; simp [go_sem]
 have f1:w3.frozen? ⟨w.heap.size,1,Q⟩=false:=by rw [hb13.frozen (p:=⟨w.heap.size,1,Q⟩) (by show w.heap.size < _; omega),hw1]; simp [go_sem]
 have f2:w3.frozen? ⟨w.heap.size,2,Q⟩=false:=by rw [hb13.frozen (p:=⟨w.heap.size,2,Q⟩) (by show w.heap.size < _; omega),hw1]; simp [go_sem]
 have hz3:w.heap.size < w3.heap.size:=by have:=hb13.size; omega
 have HB:Hid (Below w.heap.size w w3):=hb1.trans (hb13.mono hb1.size)
 have HS1:=Qaa hs1
 rw [hw1] at hr
 simp only [World.size_alloc] at hr
 have HR:=Qaa hr
 clear hr ho hb3 hm hb2 hb13 h hlen hb1 hs1 hw1
 generalize d.length=n at *
 go_enter Tryz.func23,Tryz.ntmps23
 go_wp2_with (refine Qdk _ _ _ _ (I a9 n c9) (w':=w3) (by rfl) (by rfl) (by exact HR.out) ?_)
 refine bodyPost_ret (v:=.agg #[E L c,E L s,I a9 n c9]) (by simp [results,Tryz.results23,go_sem,r0,r1,r2]) rfl ⟨a9,c9,rfl,?_,?_⟩
 ·exact Qa0 (Qac (Qac (Qac HO.out (by have:=HS1.out; omega) _ _) (by have:=HS1.out; omega) _ _) (by have:=HS1.out; omega) _ _) (by have:=HS1.out; omega)
 ·exact ((HB.out.setCell (U _) _).setCell (U _) _).setCell (U _) _
end
theorem BRd.keeps {F:Nat→Prop}{w w':World}{a:Option Addr}{bs:List Nat} (h:BRd w a bs) (hk:Qae F w w') (hn:∀ x,a=Y x→0 < bs.length→¬ F x.block):BRd w' a bs:=⟨h.1.keeps hk hn,h.2⟩
theorem Qcq {w:World}{b o:Nat}{bs:List Nat} (h:BRd w (Y ⟨b,o,Q⟩) bs) (k l:Nat) (hk:k+l≤bs.length):BRd w (Y ⟨b,o+k,Q⟩) ((bs.drop k).take l):=by
 have hle:((bs.drop k).take l).length=l:=by rw [O,List.length_drop]; omega
 refine ⟨⟨by have:=h.1.1; omega,fun hp=>⟨b,o+k,rfl,fun i hi=>?_⟩⟩,fun x hx=>h.2 x (List.mem_of_mem_drop (List.mem_of_mem_take hx))⟩
 obtain ⟨b9,o9,e9,h8⟩:=h.1.2 (by omega)
 cases e9
 have h9:w.cell? ⟨b,o+(k+i),Q⟩=Y (E .u8 (bs.getD (k+i) 0:Int)):=h8 (k+i) (by omega)
 rw [← Nat.add_assoc] at h9
 show _=Y (Value.int .u8 ((((bs.drop k).take l).getD i 0:Nat):Int))
 rw [h9,J,J,List.getElem?_take_of_lt (by omega),List.getElem?_drop]
theorem Qbf (w:World)(a:Option Addr):BRd w a []:=⟨Rw.nil _ _ _,by simp⟩
theorem Qe8 {w:World}{a:Option Addr}{bs:List Nat} (h:BRd w a bs) (k:Nat):BRd w a (bs.take k):=by
 refine ⟨⟨by have:=h.1.1; rw [O]; omega,fun hp=>?_⟩,fun x hx=>h.2 x (List.mem_of_mem_take hx)⟩
 rw [O] at hp
 obtain ⟨b,o,rfl,hc⟩:=h.1.2 (by omega)
 refine ⟨b,o,rfl,fun i hi=>?_⟩
 rw [O] at hi
 have h9:w.cell? ⟨b,o+i,Q⟩=Y (E .u8 (bs.getD i 0:Int)):=hc i (by omega)
 show _=Y (Value.int .u8 (((bs.take k).getD i 0:Nat):Int))
 rw [h9,J,J,List.getElem?_take_of_lt (by omega)]
theorem Qt5 (w:World):(w.alloc (.cells #[] 5)).ownsRow w.heap.size 5 1 (I (Y ⟨w.heap.size,0,Q⟩) 0 0) 0 (Qal []) :=
 ⟨rfl,.inr ⟨w.heap.size,0,#[],rfl,U _,by unfold World.alloc; exact Array.getElem?_push_size,U _,by unfold maxLen; omega,rfl,rfl⟩⟩
theorem Qmz {t e size bytes:Nat}(he:Qsr t e size bytes)(w:World)(c:Nat) :
  (Builtin.append_ #[t,t] t #[I Q 0 0,I Q 0 c]).run Z w=.ok (I Q 0 0) w:=by
 obtain ⟨i,z,hi,_⟩:=he.info
 have ht:=he.sl
 simp [Builtin.append_,run_underlying ht,sizeOf,typeInfo,hi,Builtin.lenOf,Builtin.firstCells,go_sem]
theorem Qzk {w:World}{B:Nat}{v:Value}{ys:List Nat} (zs:List Nat) (a:Option Addr) (c:Nat) (ho:w.ownsRow B 5 1 v ys.length (Qal ys)) (hB:B≤w.heap.size) (hl:ys.length+zs.length≤500000) (h:BRd w a zs) :
  ∃ v' w',(Builtin.append_ #[22,22] 22 #[v,I a zs.length c]).run Z w=.ok v' w'∧w'.ownsRow B 5 1 v' (ys++zs).length (Qal (ys++zs))∧Below B w w':=by
 have ho2:=ho
 rcases ho.2 with ⟨e,h0⟩ | ⟨g,cap,cur,e,_⟩
 ·subst e
  cases a with
  | none =>
   have hz:zs=[]:=by
    cases zs with
    | nil=>rfl
    | cons z r=>obtain ⟨b,off,e,_⟩:=h.1.2 (by simp); cases e
   subst hz
   exact ⟨_,w,Qmz elemU8 w c,by rw [List.append_nil]; exact ho2,Below.refl _ _⟩
  | some ad =>
   have hc:∀ j x,(Qal zs)[j]?=Y x→w.cell? (ad.add j)=Y x:=fun j x hx=>by
    have hj:j < zs.length:=by have:=(List.getElem?_eq_some_iff.1 hx).1; rwa [Qbd] at this
    obtain ⟨b,off,e,h5⟩:=h.1.2 (by omega)
    cases e
    rw [Addr.add_mid,h5 j hj,← hx]
    simp [Qal,hj]
   obtain ⟨v',w',hr,h2,h3,_,_⟩:=Qe7 elemU8 ho2 hB ad zs.length c (Qal zs) (by rw [Qbd]; omega) hc (Qfk _) (by omega)
   exact ⟨v',w',hr,by rw [Qfo,M]; exact h2,h3⟩
 ·subst e
  exact Qmc zs a c rfl ho2 hB hl h
