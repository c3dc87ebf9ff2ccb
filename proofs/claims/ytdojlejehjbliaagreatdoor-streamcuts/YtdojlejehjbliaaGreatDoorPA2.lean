import Derived.Test.YtdojlejehjbliaaGreatDoorPA1
import Derived.Lib.AppendStr
import Derived.Laws.IdiomStrings
namespace Go.Proofs.YtdojlejehjbliaaGreatDoor
set_option maxHeartbeats 4000000
open _root_.Option renaming none → I,some → U
open _root_.Go.Value renaming int → J,slice → V,bool → O
open _root_.List renaming getD_eq_getElem?_getD → Z,length_drop → R,length_cons → M
open _root_.Go.IntKind renaming i64 → Y
open _root_.Go.Proofs.Tryz renaming prog → E
open _root_.Go.Ending renaming returned → D
open _root_.Go.World renaming block_lt_of_cell? → T
open _root_.Nat renaming le_refl → L
open _root_.Go.Obj renaming cells → G
structure Cp where
 four:Bool
 as4:Int
 gr:Bool
 rs:Bool
 tm:Int
 fam:Bool
 fwd:Bool
 ll:Bool
 lt:Int
def cp0:Cp:=⟨false,0,false,false,0,false,false,false,0⟩
def Qrz (c:Cp):Bool:=if c.four then decide (1≤c.as4∧c.as4≤4294967295) else decide (c.as4=0)
def okE (bs:List Nat):Bool:=decide (2≤bs.length∧2+bs.getD 1 0≤bs.length)
def Qsq {S:Type}(f:Nat→List Nat→S→Option S):Nat→List Nat→S→Option S
 | _,[],c=>U c
 | 0,_ :: _,_=>I
 | k+1,x :: r,c=>if okE (x :: r) then (f x ((r.drop 1).take (r.getD 0 0)) c).bind (Qsq f k ((r.drop 1).drop (r.getD 0 0))) else I
def Qc7 {S:Type}(f:Nat→List Nat→S→Option S)(bs:List Nat)(c:S):Option S:=Qsq f bs.length bs c
theorem Qn0 {S:Type}(f:Nat→List Nat→S→Option S):∀ (k:Nat) (bs:List Nat) (c:S),bs.length≤k→∀ d,Qsq f (k+d) bs c=Qsq f k bs c
 | k,[],c,_,d=>by cases k <;> cases d <;> rfl
 | 0,x :: r,c,h,d=>by simp at h
 | k+1,x :: r,c,h,d=>by
  rw [show k+1+d=(k+d)+1 from by omega,Qsq,Qsq]
  have e:Qsq f (k+d) ((r.drop 1).drop (r.getD 0 0))=Qsq f k ((r.drop 1).drop (r.getD 0 0)):=by
   funext c2
   exact Qn0 f k _ c2 (by simp only [R,M] at *; omega) d
  rw [e]
theorem Qhv {S:Type}(f:Nat→List Nat→S→Option S)(c:S):Qc7 f [] c=U c:=rfl
theorem Qfx {S:Type}{f:Nat→List Nat→S→Option S}{bs:List Nat}{c:S} (h0:bs≠[]) (h:okE bs=false):Qc7 f bs c=I:=by
 cases bs with
 | nil=>exact absurd rfl h0
 | cons x r=>unfold Qc7; rw [M,Qsq,h]; rfl
theorem Qhh {S:Type}{f:Nat→List Nat→S→Option S}{bs:List Nat}{c:S} (h:okE bs=true) :
  Qc7 f bs c=(f (bs.getD 0 0) ((bs.drop 2).take (bs.getD 1 0)) c).bind (Qc7 f (bs.drop (2+bs.getD 1 0))):=by
 cases bs with
 | nil=>simp [okE] at h
 | cons x r =>
  unfold Qc7
  rw [M,Qsq,if_pos h]
  have e:Qsq f r.length ((r.drop 1).drop (r.getD 0 0))=Qsq f ((x :: r).drop (2+(x :: r).getD 1 0)).length ((x :: r).drop (2+(x :: r).getD 1 0)):=by
   funext c2
   have e1:(r.drop 1).drop (r.getD 0 0)=(x :: r).drop (2+(x :: r).getD 1 0):=by
    rw [List.drop_drop,show 2+(x :: r).getD 1 0=(1+r.getD 0 0)+1 from by simp; omega,List.drop_succ_cons]
   rw [e1]
   have e2:((x :: r).drop (2+(x :: r).getD 1 0)).length≤r.length:=by simp only [R,M]; omega
   obtain ⟨d,hd⟩:=Nat.le.dest e2
   rw [← hd]
   exact Qn0 f _ _ c2 (L _) d
  rw [e]
  rfl
def Qkl (bs:List Nat):Option (List (Nat×List Nat)):=Qc7 (fun k v l=>U (l++[(k,v)])) bs []
def Qef {S:Type}(f:Nat→List Nat→S→Option S):List (Nat×List Nat)→S→Option S
 | [],c=>U c
 | p :: l,c=>(f p.1 p.2 c).bind (Qef f l)
theorem Qul {S:Type}(f:Nat→List Nat→S→Option S)(l r:List (Nat×List Nat))(c:S):Qef f (l++r) c=(Qef f l c).bind (Qef f r):=by
 induction l generalizing c with
 | nil=>rfl
 | cons p l ih =>
  simp only [List.cons_append,Qef]
  cases f p.1 p.2 c with
  | none=>rfl
  | some d=>exact ih d
theorem Qlh {S:Type}(f:Nat→List Nat→S→Option S):∀ (n:Nat) (bs:List Nat) (l:List (Nat×List Nat)) (c:S),bs.length≤n →
  (Qef f l c).bind (Qc7 f bs)=(Qc7 (fun k v (l:List (Nat×List Nat))=>U (l++[(k,v)])) bs l).bind fun l2=>Qef f l2 c
 | n,bs,l,c,hn=>by
  by_cases h0:bs=[]
  ·subst h0
   rw [Qhv]
   show _=Qef f l c
   cases Qef f l c <;> rfl
  ·cases ho:okE bs with
   | false =>
    rw [Qfx h0 ho]
    cases h:Qef f l c with
    | none=>rfl
    | some d=>show Qc7 f bs d=I; rw [Qfx h0 ho]
   | true =>
    have hl:(bs.drop (2+bs.getD 1 0)).length < bs.length:=by
     have h1:2≤bs.length:=(of_decide_eq_true ho).1
     rw [R]; omega
    cases n with
    | zero=>simp only [Nat.le_zero] at hn; omega
    | succ n =>
     have ih:=Qlh f n (bs.drop (2+bs.getD 1 0)) (l++[(bs.getD 0 0,(bs.drop 2).take (bs.getD 1 0))]) c (by omega)
     rw [Qhh ho]
     show _=(Qc7 _ _ _).bind _
     rw [← ih,Qul]
     cases h:Qef f l c with
     | none=>rfl
     | some d =>
      show Qc7 f bs d=(Qef f [_] d).bind _
      rw [Qhh ho]
      show _=((f _ _ d).bind (Qef f [])).bind _
      cases f (bs.getD 0 0) ((bs.drop 2).take (bs.getD 1 0)) d <;> rfl
theorem Qns {S:Type}(f:Nat→List Nat→S→Option S)(bs:List Nat)(c:S):Qc7 f bs c=(Qkl bs).bind fun l=>Qef f l c:=Qlh f bs.length bs [] c (L _)
def Qcn (d:List Nat):Nat:=d.foldl (fun n x=>n * 256+x) 0
theorem Qm1 (d:List Nat)(x:Nat):Qcn (d++[x])=Qcn d * 256+x:=by simp [Qcn]
def Qhn (s:Nat):Nat→List Nat→Option (List Nat)
 | 0,_=>I
 | k+1,b=>if b.length < s then I else if b.take 3=[0,1,1] then U (b.take s) else Qhn s k (b.drop s)
def Qf4 (s:Nat)(b:List Nat):Option (List Nat):=Qhn s (b.length+1) b
theorem Qkh (s:Nat)(hs:0 < s):∀ (k:Nat) (b:List Nat),b.length < k→∀ d,Qhn s (k+d) b=Qhn s k b
 | 0,b,h,d=>by omega
 | k+1,b,h,d=>by
  rw [show k+1+d=(k+d)+1 from by omega,Qhn,Qhn]
  by_cases h1:b.length < s
  ·rw [if_pos h1,if_pos h1]
  ·rw [if_neg h1,if_neg h1]
   by_cases h2:b.take 3=[0,1,1]
   ·rw [if_pos h2,if_pos h2]
   ·rw [if_neg h2,if_neg h2]
    exact Qkh s hs k _ (by rw [R]; omega) d
theorem Ql6 {s:Nat}{b:List Nat} (h:b.length < s):Qf4 s b=I:=by unfold Qf4; rw [Qhn,if_pos h]
theorem Qma {s:Nat}{b:List Nat} (h:¬ b.length < s) (h3:b.take 3=[0,1,1]):Qf4 s b=U (b.take s):=by unfold Qf4; rw [Qhn,if_neg h,if_pos h3]
theorem Qkk {s:Nat}{b:List Nat} (hs:0 < s) (h:¬ b.length < s) (h3:b.take 3≠[0,1,1]):Qf4 s b=Qf4 s (b.drop s):=by
 unfold Qf4
 rw [Qhn,if_neg h,if_neg h3]
 have e:(b.drop s).length+1≤b.length:=by rw [R]; omega
 obtain ⟨d,hd⟩:=Nat.le.dest e
 rw [← hd]
 exact Qkh s hs _ _ (by omega) d
def Qnr (u:Option (List Nat)):Bool:=match u with
 | none=>false
 | some l=>decide (128≤l.getD 3 0)
def Qr1 (u:Option (List Nat)):Nat:=match u with
 | none=>0
 | some l=>l.getD 4 0 * 65536+l.getD 5 0 * 256+l.getD 6 0
def Qfe (b:List Nat)(c:Cp):Cp:={ c with four:=true,as4:=(Qcn b:Int) }
def Qls (b:List Nat)(c:Cp):Cp:={ c with gr:=true,rs:=decide (128≤b.getD 0 0),tm:=((b.getD 0 0 % 16 * 256+b.getD 1 0:Nat):Int),fam:=(Qf4 4 (b.drop 2)).isSome,fwd:=Qnr (Qf4 4 (b.drop 2)) }
def Ql4 (b:List Nat)(c:Cp):Cp:={ c with ll:=(Qf4 7 b).isSome,lt:=(Qr1 (Qf4 7 b):Int) }
def Qa1 (k:Nat)(b:List Nat)(c:Cp):Option Cp :=
 if k=65 then (if b.length=4∧Qcn b≠0 then U (Qfe b c) else I)
 else if k=64 then (if b.length % 4=2 then U (Qls b c) else I)
 else if k=71 then (if b.length % 7=0 then U (Ql4 b c) else I)
 else U c
def Qcu (k:Nat)(b:List Nat)(c:Cp):Option Cp:=if k=2 then Qc7 Qa1 b c else I
def Qfc (bs:List Nat):Option Cp:=Qc7 Qcu bs cp0
open Go.RowKit
set_option maxRecDepth 100000
def Qga (c:Cp):Value:=.agg #[O c.four,J Y c.as4,O c.gr,O c.rs,J Y c.tm,O c.fam,O c.fwd,O c.ll,J Y c.lt]
def Qx7 (c:Cp):Array Value:=#[O c.four,J Y c.as4,O c.gr,O c.rs,J Y c.tm,O c.fam,O c.fwd,O c.ll,J Y c.lt]
theorem Qhu (w:World)(o:Obj):Below w.heap.size w (w.alloc o):=(Below.refl _ _).alloc (L _) _
theorem Qrr (c:Cp)(w:World):Calls E 119 #[Qga c] w fun e w'=>e=D (O (Qrz c))∧Below w.heap.size w w':=by
 obtain ⟨four,as4,gr,rs,tm,fam,fwd,ll,lt⟩:=c
 cases four with
 | false =>
  have HG:Hid (Qrz ⟨false,as4,gr,rs,tm,fam,fwd,ll,lt⟩=decide (as4=0)):=rfl
  generalize Qrz ⟨false,as4,gr,rs,tm,fam,fwd,ll,lt⟩=g at *
  unfold Qga
  go_enter Tryz.func119,Tryz.ntmps119
  go_wp2
  go_ret
  exact ⟨Qa8 (by rw [HG.out]; first | rfl | (rw [Bool.eq_iff_iff]; simp)),Qhu _ _⟩
 | true =>
  have HG:Hid (Qrz ⟨true,as4,gr,rs,tm,fam,fwd,ll,lt⟩=decide (1≤as4∧as4≤4294967295)):=rfl
  generalize Qrz ⟨true,as4,gr,rs,tm,fam,fwd,ll,lt⟩=g at *
  unfold Qga
  by_cases h1:1≤as4
  ·have HD:Hid (decide (1≤as4∧as4≤4294967295)=decide (as4≤4294967295)):=by show decide _=_; rw [Bool.eq_iff_iff]; simp [h1]
   go_enter Tryz.func119,Tryz.ntmps119
   go_wp2
   go_ret
   exact ⟨Qa8 (by rw [HG.out,HD.out]),Qhu _ _⟩
  ·have HD:Hid (decide (1≤as4∧as4≤4294967295)=false):=decide_eq_false (fun h9=>h1 h9.1)
   have h2:decide (1≤as4)=false:=decide_eq_false h1
   clear h1
   go_enter Tryz.func119,Tryz.ntmps119
   go_wp2
   go_ret
   exact ⟨Qa8 (by rw [HG.out,HD.out]),Qhu _ _⟩
section
variable {P:Program}{a:Act}{w w':World}{K:Act→World→Prop}{Q:Exit→Act→World→Prop}{dst:Option Tmp}{ty:TypeId}{pos:String}{after:Array Edge}{gd:Option (Nat×Bool)}
theorem Qpz (x y:Operand):Oper.wp P { dst:=dst,op:=.call { callee:=.builtin .append,args:=#[x,y],argTypes:=#[22,9] },type:=ty,pos:=pos,after:=after,guard:=gd } a w K Q=Qdl P { dst:=dst,op:=.call { callee:=.builtin .append,args:=#[x,y],argTypes:=#[22,9] },type:=ty,pos:=pos,after:=after,guard:=gd } a w K Q:=rfl
end
section
attribute [local go_sem ↓] Qey Qpz
theorem Jby (x y:Nat)(hx:x < 4294967296)(hy:y < 4294967296):bits .or Y (x:Int) (y:Int)=((x ||| y:Nat):Int) :=
 (bits_nat Y 32 (by decide) (fun n h0 h1=>by rw [IntKind.wrap_i64]; simp only [Int.reducePow] at h1; omega) _ _ (by simpa using hx) (by simpa using hy)).2
theorem Jac (x y:Nat)(hx:x < 4294967296)(hy:y < 4294967296):bits .and Y (x:Int) (y:Int)=((x &&& y:Nat):Int) :=
 (bits_nat Y 32 (by decide) (fun n h0 h1=>by rw [IntKind.wrap_i64]; simp only [Int.reducePow] at h1; omega) _ _ (by simpa using hx) (by simpa using hy)).1
end
theorem Qmy (a b c d:Nat):Qcn [a,b,c,d]=((a * 256+b) * 256+c) * 256+d:=by simp [Qcn]
theorem Qau {b:List Nat}(hb:∀ x∈b,x < 256)(i:Nat):b.getD i 0 < 256:=by
 rw [Z]
 by_cases h:i < b.length
 ·rw [List.getElem?_eq_getElem h]; exact hb _ (List.getElem_mem h)
 ·rw [List.getElem?_eq_none (by omega)]; simp
theorem Qyc (N x:Nat)(hN:N < 16777216)(hx:x < 256):bits .or Y ((N:Int) * 256) (x:Int)=((N * 256+x:Nat):Int):=by
 have e:=Jby (N * 256) x (by omega) (by omega)
 have e2:N * 256 ||| x=N * 256+x:=by
  have:=Nat.two_pow_add_eq_or_of_lt (i:=8) (b:=x) (by simpa using hx) N
  simp only [Nat.reducePow] at this
  rw [Nat.mul_comm,← this]
 rw [e2] at e
 simpa using e
theorem Qjo (d:List Nat)(h:∀ x∈d,x < 256):Qcn d < 256 ^ d.length:=by
 have key:∀ (d:List Nat) (n m:Nat),(∀ x∈d,x < 256)→n < m→d.foldl (fun n x=>n * 256+x) n < m * 256 ^ d.length:=by
  intro d
  induction d with
  | nil=>intro n m _ h; simpa using h
  | cons a d ih =>
   intro n m h hn
   have ha:=h a (by simp)
   have:=ih (n * 256+a) (m * 256) (fun x hx=>h x (by simp [hx])) (by omega)
   rw [List.foldl_cons,M,Nat.pow_succ,Nat.mul_comm (256 ^ d.length),← Nat.mul_assoc]
   exact this
 have h9:=key d 0 1 h (by omega)
 rw [Nat.one_mul] at h9
 exact h9
theorem Qj7 {d:List Nat}(h:∀ x∈d,x < 256)(k:Nat):∀ x∈d.take k,x < 256:=fun x hx=>h x (List.mem_of_mem_take hx)
theorem Qju (b o n cap:Nat)(bs:List Nat)(w:World)(hn:bs.length=n)(h4:n≤4)(hlt:∀ x∈bs,x < 256)(hc:∀ i,i < n→w.cell? ⟨b,o+i,I⟩=U (J .u8 (bs.getD i 0:Int))) :
  Calls E 118 #[V (U ⟨b,o,I⟩) n cap] w fun e w'=>e=D (J Y (Qcn bs:Int))∧w'=w:=by
 have HC:=Qaa hc
 have HL:=Qaa hlt
 have HN:=Qaa hn
 clear hc hlt hn
 go_enter Tryz.func118,Tryz.ntmps118
 go_wp2
 go_loop [3,8] (fun u i=>∃ k N:Nat,k≤n∧i=J Y k∧u=J Y (N:Int)∧Hid (N=Qcn (bs.take k))) (fun _ i=>n - (intOf i).toNat)
 case atStart=>exact ⟨0,0,Nat.zero_le _,rfl,rfl,rfl⟩
 case round =>
  obtain ⟨k,N,hk,rfl,rfl,HNK⟩:=hrel
  by_cases hlt:k < n
  ·have hkl:k < bs.length:=by rw [HN.out]; exact hlt
   have ck:=HC.out k hlt
   have zk:=T w _ ck
   simp only at zk
   have hx:bs.getD k 0 < 256:=Qau HL.out k
   have hN:N < 16777216:=by
    have h9:=Qjo (bs.take k) (Qj7 HL.out k)
    rw [← HNK.out,List.length_take,Nat.min_eq_left (by omega)] at h9
    have h8:(256:Nat) ^ k≤256 ^ 3:=Nat.pow_le_pow_right (by omega) (by omega)
    simp only [Nat.reducePow] at h8
    omega
   have HNN:Hid (N * 256+bs.getD k 0=Qcn (bs.take (k+1))):=by
    show _=_
    rw [List.take_succ_eq_append_getElem hkl,Qm1,← HNK.out,Z,List.getElem?_eq_getElem hkl]; rfl
   have hor:=Qyc N (bs.getD k 0) hN hx
   generalize bs.getD k 0=x at *
   clear HNK
   have hk0:(0:Int)≤(k:Int):=Int.natCast_nonneg _
   have hk1:(k:Int) < (n:Int):=by omega
   go_wp2
   exact ⟨⟨k+1,N * 256+x,by omega,by go_num,rfl,HNN⟩,by simp [intOf]; omega⟩
  ·have hke:bs.take k=bs:=List.take_of_length_le (by rw [HN.out]; omega)
   go_wp2
   go_ret
   exact ⟨Qfu (by rw [HNK.out,hke]),rfl⟩
def Qky (w:World)(X s:Nat)(r:Option (List Nat))(e:Ending):Prop:=match r with
 | none=>e=D (.tuple #[V I 0 0,O false])
 | some u=>∃ b o c,e=D (.tuple #[V (U ⟨b,o,I⟩) s c,O true])∧b≠X∧s≤c∧u.length=s∧(∀ x∈u,x < 256)∧∀ i,i < s→w.cell? ⟨b,o+i,I⟩=U (J .u8 (u.getD i 0:Int))
theorem Jch (w:World)(b o c:Nat)(x0 x1 x2:Nat)(h0:x0 < 256)(h1:x1 < 256)(h2:x2 < 256)(c0:w.cell? ⟨b,o,I⟩=U (J .u8 (x0:Int)))(c1:w.cell? ⟨b,o+1,I⟩=U (J .u8 (x1:Int)))(c2:w.cell? ⟨b,o+2,I⟩=U (J .u8 (x2:Int))) :
  (convert 22 9 (V (U ⟨b,o,I⟩) 3 c)).run E w=.ok (.string ⟨#[UInt8.ofNat x0,UInt8.ofNat x1,UInt8.ofNat x2]⟩) w:=by
 have e:∀ x,x < 256→(UInt8.ofNat x).toNat=x:=fun x hx=>by simp; omega
 refine run_convert_bytes_back (P:=E) w 22 9 5 ⟨b,o,I⟩ c [UInt8.ofNat x0,UInt8.ofNat x1,UInt8.ofNat x2] Tryz.underlying22 Tryz.underlying5 Tryz.underlying9 (fun j hj=>?_)
 match j,hj with
 | 0,_=>show w.cell? _=U (J .u8 (((UInt8.ofNat x0).toNat:Nat):Int)); rw [e x0 h0]; simpa [Addr.add] using c0
 | 1,_=>show w.cell? _=U (J .u8 (((UInt8.ofNat x1).toNat:Nat):Int)); rw [e x1 h1]; simpa [Addr.add] using c1
 | 2,_=>show w.cell? _=U (J .u8 (((UInt8.ofNat x2).toNat:Nat):Int)); rw [e x2 h2]; simpa [Addr.add] using c2
theorem Qzf {r:List Nat}(h:3≤r.length):r.take 3=[r.getD 0 0,r.getD 1 0,r.getD 2 0]:=by
 match r,h with
 | a :: b :: c :: _,_=>rfl
theorem Qzw (x0 x1 x2:Nat)(h0:x0 < 256)(h1:x1 < 256)(h2:x2 < 256):((⟨#[UInt8.ofNat x0,UInt8.ofNat x1,UInt8.ofNat x2]⟩:ByteArray)=⟨#[0,1,1]⟩)↔[x0,x1,x2]=[0,1,1]:=by
 have e:∀ x,x < 256→(UInt8.ofNat x).toNat=x:=fun x hx=>by simp; omega
 constructor
 ·intro h
  simp only [ByteArray.mk.injEq,Array.mk.injEq,List.cons.injEq,and_true] at h
  have k0:=congrArg UInt8.toNat h.1
  have k1:=congrArg UInt8.toNat h.2.1
  have k2:=congrArg UInt8.toNat h.2.2
  rw [e _ h0] at k0
  rw [e _ h1] at k1
  rw [e _ h2] at k2
  rw [k0,k1,k2]; rfl
 ·intro h
  simp only [List.cons.injEq,and_true] at h
  rw [h.1,h.2.1,h.2.2]; rfl
theorem Qqa (X:Nat)(a:Option Addr)(c:Nat)(bs:List Nat)(s:Nat)(w:World)(hs:3≤s)(hs2:s≤7)(hl:bs.length≤10000)(hcap:bs.length≤c)(h:BRd w a bs)(hne:∀ x,a=U x→0 < bs.length→x.block≠X) :
  Calls E 120 #[V a bs.length c,J Y (s:Int)] w fun e w'=>Qky w X s (Qf4 s bs) e∧w'=w:=by
 have HB0:=Qaa h
 have HX0:=Qaa hne
 clear h hne
 go_enter Tryz.func120,Tryz.ntmps120
 go_wp2
 go_loop [0] (fun u=>∃ (rest:List Nat) (a:Option Addr) (n c:Nat),u=V a n c∧Hid (rest.length=n)∧n≤c∧n≤10000∧Hid (Qf4 s bs=Qf4 s rest)∧Hid (BRd w a rest)∧Hid (∀ x,a=U x→0 < n→x.block≠X)) (fun u=>sliceLen u)
 case atStart=>exact ⟨bs,a,_,c,rfl,rfl,hcap,hl,rfl,HB0,HX0⟩
 case round =>
  obtain ⟨rest,a1,n,c1,rfl,HN,hnc,hn,HF,HB,HX⟩:=hrel
  by_cases hlt:n < s
  ·have HU:Hid (Qky w X s (Qf4 s bs) (D (.tuple #[V I 0 0,O false]))):=by
    show Qky _ _ _ _ _
    rw [HF.out,Ql6 (by rw [HN.out]; exact hlt)]; rfl
   go_wp2
   go_ret2
   exact ⟨HU.out,rfl⟩
  ·obtain ⟨b,o,rfl,hc⟩:=HB.out.1.2 (by rw [HN.out]; omega)
   have HC:=Qaa hc
   have hr3:3≤rest.length:=by rw [HN.out]; omega
   have x0:=hc 0 (by omega)
   have x1:=hc 1 (by omega)
   have x2:=hc 2 (by omega)
   have hcv:=Jch w b o c1 (rest.getD 0 0) (rest.getD 1 0) (rest.getD 2 0) (Qau HB.out.2 0) (Qau HB.out.2 1) (Qau HB.out.2 2) x0 x1 x2
   have HQ:=Qaa (Qzw (rest.getD 0 0) (rest.getD 1 0) (rest.getD 2 0) (Qau HB.out.2 0) (Qau HB.out.2 1) (Qau HB.out.2 2))
   rw [← Qzf hr3] at HQ
   have HR3:=Qaa hr3
   clear hc x0 x1 x2 hr3
   generalize (⟨#[UInt8.ofNat (rest.getD 0 0),UInt8.ofNat (rest.getD 1 0),UInt8.ofNat (rest.getD 2 0)]⟩:ByteArray)=S at *
   by_cases hq:S=⟨#[0,1,1]⟩
   ·have HU:Hid (Qky w X s (Qf4 s bs) (D (.tuple #[V (U ⟨b,o,I⟩) s c1,O true]))):=by
     show Qky _ _ _ _ _
     rw [HF.out,Qma (by rw [HN.out]; exact hlt) (HQ.out.1 hq)]
     refine ⟨b,o,c1,rfl,HX.out _ rfl (by omega),by omega,by rw [List.length_take,HN.out]; omega,Qj7 HB.out.2 s,fun i hi=>?_⟩
     have h9:w.cell? ⟨b,o+i,I⟩=U (J .u8 (rest.getD i 0:Int)):=HC.out i (by rw [HN.out]; omega)
     rw [h9,Z,Z,List.getElem?_take_of_lt hi]
    clear HF HB HC HQ
    subst hq
    go_wp2
    go_ret2
    exact ⟨HU.out,rfl⟩
   ·have HF2:Hid (Qf4 s bs=Qf4 s (rest.drop s)):=by
     show _=_
     rw [HF.out,Qkk (by omega) (by rw [HN.out]; exact hlt) (fun h=>hq (HQ.out.2 h))]
    have HN2:Hid ((rest.drop s).length=n - s):=by show _=_; rw [R,HN.out]
    have hq2:(S.toList == [0,1,1])=false:=by
     rw [ByteArray.toList_eq,Bool.eq_false_iff]
     intro h9
     refine hq ?_
     obtain ⟨⟨l⟩⟩:=S
     rw [show l=[0,1,1] from by simpa using h9]
    have hns:(s:Int)≤(n:Int):=by omega
    clear HF HQ hq
    by_cases hcs:c1=s
    ·have HB2:Hid (BRd w (U ⟨b,o,I⟩) (rest.drop s)):=by
      have h0:rest.drop s=[]:=List.drop_eq_nil_of_le (by rw [HN.out]; omega)
      show BRd _ _ _
      rw [h0]
      exact ⟨Rw.nil _ _ _,by simp⟩
     have hcs2:=hcs.symm
     subst hcs2
     go_wp2
     exact ⟨⟨rest.drop s,_,_,_,rfl,by show (rest.drop s).length=0; rw [HN2.out]; omega,by omega,by omega,HF2,HB2,fun x _ h0=>absurd h0 (by omega)⟩,by simp [sliceLen]; omega⟩
    ·have HB2:Hid (BRd w (U ⟨b,o+s,I⟩) (rest.drop s)):=by
      refine ⟨⟨by unfold maxLen; rw [HN2.out]; omega,fun _=>⟨b,o+s,rfl,fun i hi=>?_⟩⟩,fun x hx=>HB.out.2 x (List.mem_of_mem_drop hx)⟩
      rw [HN2.out] at hi
      have h9:w.cell? ⟨b,o+(s+i),I⟩=U (J .u8 (rest.getD (s+i) 0:Int)):=HC.out (s+i) (by rw [HN.out]; omega)
      rw [← Nat.add_assoc] at h9
      show _=U (Value.int .u8 (((rest.drop s).getD i 0:Nat):Int))
      rw [h9,Z,Z,List.getElem?_drop]
     go_wp2
     exact ⟨⟨rest.drop s,_,_,_,rfl,HN2,by omega,by omega,HF2,HB2,fun x hx _=>by cases hx; exact HX.out ⟨b,o,I⟩ rfl (by omega)⟩,by simp [sliceLen]; omega⟩
def Qbg (bs:List Nat):Nat:=256 * bs.getD 16 0+bs.getD 17 0
def Qdo (bs:List Nat):Nat:=bs.getD 18 0
def Qdn (k:Nat):Nat:=if k=1 then 29 else if k=2 then 23 else if k=3 then 21 else 19
def Qei (k:Nat):Nat:=if k=4 then 19 else 4096
def Qa6 (bs:List Nat):Nat×Nat×Nat×List Nat :=
 if bs.length < 19 then (0,0,0,[])
 else if bs.take 16≠List.replicate 16 255 then (0,1,1,[])
 else if Qbg bs < 19∨4096 < Qbg bs then (0,1,2,(bs.drop 16).take 2)
 else if Qdo bs < 1∨4 < Qdo bs then (0,1,3,(bs.drop 18).take 1)
 else if Qbg bs < Qdn (Qdo bs)∨Qei (Qdo bs) < Qbg bs then (0,1,2,(bs.drop 16).take 2)
 else (Qbg bs,0,0,[])
theorem Qf1 {bs:List Nat}(h:bs.length < 19):Qa6 bs=(0,0,0,[]):=by unfold Qa6; rw [if_pos h]
theorem Qh9 {bs:List Nat}(h:¬ bs.length < 19)(h1:bs.take 16≠List.replicate 16 255):Qa6 bs=(0,1,1,[]):=by unfold Qa6; rw [if_neg h,if_pos h1]
theorem Qih {bs:List Nat}(h:¬ bs.length < 19)(h1:¬ bs.take 16≠List.replicate 16 255)(h2:Qbg bs < 19∨4096 < Qbg bs):Qa6 bs=(0,1,2,(bs.drop 16).take 2):=by unfold Qa6; rw [if_neg h,if_neg h1,if_pos h2]
theorem Qim {bs:List Nat}(h:¬ bs.length < 19)(h1:¬ bs.take 16≠List.replicate 16 255)(h2:¬ (Qbg bs < 19∨4096 < Qbg bs))(h3:Qdo bs < 1∨4 < Qdo bs):Qa6 bs=(0,1,3,(bs.drop 18).take 1):=by unfold Qa6; rw [if_neg h,if_neg h1,if_neg h2,if_pos h3]
theorem Qij {bs:List Nat}(h:¬ bs.length < 19)(h1:¬ bs.take 16≠List.replicate 16 255)(h2:¬ (Qbg bs < 19∨4096 < Qbg bs))(h3:¬ (Qdo bs < 1∨4 < Qdo bs))(h4:Qbg bs < Qdn (Qdo bs)∨Qei (Qdo bs) < Qbg bs):Qa6 bs=(0,1,2,(bs.drop 16).take 2):=by unfold Qa6; rw [if_neg h,if_neg h1,if_neg h2,if_neg h3,if_pos h4]
theorem Qh5 {bs:List Nat}(h:¬ bs.length < 19)(h1:¬ bs.take 16≠List.replicate 16 255)(h2:¬ (Qbg bs < 19∨4096 < Qbg bs))(h3:¬ (Qdo bs < 1∨4 < Qdo bs))(h4:¬ (Qbg bs < Qdn (Qdo bs)∨Qei (Qdo bs) < Qbg bs)):Qa6 bs=(Qbg bs,0,0,[]):=by unfold Qa6; rw [if_neg h,if_neg h1,if_neg h2,if_neg h3,if_neg h4]
theorem Qh8 (b o n cap:Nat)(bs:List Nat)(w:World)(hn:bs.length=n)(h4:n≤4)(hlt:∀ x∈bs,x < 256)(hc:∀ i,i < n→w.cell? ⟨b,o+i,I⟩=U (J .u8 (bs.getD i 0:Int))) :
  Calls E 38 #[V (U ⟨b,o,I⟩) n cap] w fun e w'=>e=D (J Y (Qcn bs:Int))∧w'=w:=by
 have HC:=Qaa hc
 have HL:=Qaa hlt
 have HN:=Qaa hn
 clear hc hlt hn
 go_enter Tryz.func38,Tryz.ntmps38
 go_wp2
 go_loop [3,8] (fun u i=>∃ k N:Nat,k≤n∧i=J Y k∧u=J Y (N:Int)∧Hid (N=Qcn (bs.take k))) (fun _ i=>n - (intOf i).toNat)
 case atStart=>exact ⟨0,0,Nat.zero_le _,rfl,rfl,rfl⟩
 case round =>
  obtain ⟨k,N,hk,rfl,rfl,HNK⟩:=hrel
  by_cases hlt:k < n
  ·have hkl:k < bs.length:=by rw [HN.out]; exact hlt
   have ck:=HC.out k hlt
   have zk:=T w _ ck
   simp only at zk
   have hx:bs.getD k 0 < 256:=Qau HL.out k
   have hN:N < 16777216:=by
    have h9:=Qjo (bs.take k) (Qj7 HL.out k)
    rw [← HNK.out,List.length_take,Nat.min_eq_left (by omega)] at h9
    have h8:(256:Nat) ^ k≤256 ^ 3:=Nat.pow_le_pow_right (by omega) (by omega)
    simp only [Nat.reducePow] at h8
    omega
   have HNN:Hid (N * 256+bs.getD k 0=Qcn (bs.take (k+1))):=by
    show _=_
    rw [List.take_succ_eq_append_getElem hkl,Qm1,← HNK.out,Z,List.getElem?_eq_getElem hkl]; rfl
   have hor:=Qyc N (bs.getD k 0) hN hx
   generalize bs.getD k 0=x at *
   clear HNK
   have hk0:(0:Int)≤(k:Int):=Int.natCast_nonneg _
   have hk1:(k:Int) < (n:Int):=by omega
   go_wp2
   exact ⟨⟨k+1,N * 256+x,by omega,by go_num,rfl,HNN⟩,by simp [intOf]; omega⟩
  ·have hke:bs.take k=bs:=List.take_of_length_le (by rw [HN.out]; omega)
   go_wp2
   go_ret
   exact ⟨Qfu (by rw [HNK.out,hke]),rfl⟩
def Qgv (ps:List (Option Addr×Nat×List Nat)):List Nat:=(ps.map fun x=>x.2.2).flatten
theorem Qk5 {ps:List (Option Addr×Nat×List Nat)}{k:Nat}{x:Option Addr×Nat×List Nat} (h:ps[k]?=U x):Qgv (ps.take (k+1))=Qgv (ps.take k)++x.2.2:=by
 rw [List.take_add_one,h]; simp [Qgv]
theorem Qxv (ps:List (Option Addr×Nat×List Nat))(k:Nat):(Qgv (ps.take k)).length≤(Qgv ps).length:=by
 have h:Qgv ps=Qgv (ps.take k)++Qgv (ps.drop k):=by
  unfold Qgv
  rw [← List.flatten_append,← List.map_append,List.take_append_drop]
 rw [h,List.length_append]
 omega
section
attribute [local go_sem ↓] Qey
theorem Qyq (g o c:Nat)(ps:List (Option Addr×Nat×List Nat))(w:World)(hps:ps.length≤1000)(hc:∀ i x,ps[i]?=U x→w.cell? ⟨g,o+i,I⟩=U (V x.1 x.2.2.length x.2.1))(hb:∀ x∈ps,BRd w x.1 x.2.2)(hl:(Qgv ps).length≤100000) :
  Calls E 36 #[V (U ⟨g,o,I⟩) ps.length c] w fun e w'=>∃ v,e=D v∧w'.ownsRow w.heap.size 5 1 v (Qgv ps).length (Qal (Qgv ps))∧Below w.heap.size w w':=by
 have HC:=Qaa hc
 have HB:=Qaa hb
 have HL:=Qaa hl
 clear hc hb hl
 obtain ⟨n,hn⟩:∃ n,n=ps.length:=⟨_,rfl⟩
 have HN:=Qaa hn
 rw [← hn] at hps ⊢
 clear hn
 go_enter Tryz.func36,Tryz.ntmps36
 go_wp2
 go_loopw [3,8] (fun v i wq=>∃ k:Nat,k≤n∧i=J Y k∧Hid (wq.ownsRow w.heap.size 5 1 v (Qgv (ps.take k)).length (Qal (Qgv (ps.take k))))∧Hid (Below w.heap.size w wq)) (fun _ i _=>n - (intOf i).toNat)
 case atStart=>exact ⟨0,Nat.zero_le _,rfl,Qbm _ _ _ _,Below.refl _ _⟩
 case round =>
  obtain ⟨k,hk,rfl,HO,HW⟩:=hrel
  by_cases hlt:k < n
  ·have hkl:k < ps.length:=by rw [← HN.out]; exact hlt
   have hx:=List.getElem?_eq_getElem hkl
   generalize ps[k]=x at hx
   have ck0:=HC.out k x hx
   have zk0:=T w _ ck0
   have ck:wr.cell? ⟨g,o+k,I⟩=U (V x.1 x.2.2.length x.2.1):=by rw [HW.out.cell (p:=⟨g,o+k,I⟩) zk0]; exact ck0
   have zk:=T wr _ ck
   simp only at zk
   have hsum:=Qxv ps (k+1)
   rw [Qk5 hx,List.length_append] at hsum
   obtain ⟨v',w',hr,ho,hb2⟩:=Qzk x.2.2 x.1 x.2.1 HO.out HW.out.size (by have:=HL.out; omega) ((HB.out x (List.mem_of_getElem? hx)).below HW.out)
   rw [← Qk5 hx] at ho
   have HR:=Qaa hr
   have HO2:=Qaa ho
   have HB2:=Qaa (HW.out.trans hb2)
   clear hr ho hb2 hsum ck0 zk0 HO hx hkl
   obtain ⟨xa,xc,xb⟩:=x
   simp only at *
   generalize xb.length=m at *
   have hk0:(0:Int)≤(k:Int):=Int.natCast_nonneg _
   have hk1:(k:Int) < (n:Int):=by omega
   go_wp2_with (refine Qdk _ _ _ _ v' (w':=w') (by rfl) (by rfl) (by exact HR.out) ?_)
   exact ⟨⟨k+1,by omega,by go_num,HO2,HB2⟩,by simp [intOf]; omega⟩
  ·have hke:ps.take k=ps:=List.take_of_length_le (by rw [← HN.out]; omega)
   have HO2:=HO
   rw [hke] at HO2
   clear hke HO
   go_wp2
   go_ret
   exact ⟨_,rfl,HO2.out,HW.out⟩
end
theorem Qz1 (n:Nat)(hn:n≤100000)(w:World):(Instr.makeSlice 22 (J Y (n:Int)) (J Y (n:Int))).run E w =
  .ok (V (U ⟨w.heap.size,0,I⟩) n n) (w.alloc (G (Qal (List.replicate n 0)).toArray 5)):=by
 obtain ⟨i0,hi0,hz0,hz1,hz2⟩:=Qcz Tryz.infoU8
 have:=run_make (P:=E) w 22 5 i0 _ Tryz.underlying22 hi0 hz0 Y Y (n:Int) (n:Int) (by omega) (Int.le_refl _) (by rw [hz2]; omega) (by omega)
 simp only [Int.toNat_natCast,hz1,Value.cells,Nat.mul_one] at this
 rw [this]
 congr 3
 apply Array.ext_getElem?
 intro k
 by_cases hk:k < n
 ·simp [madeCells,Qal,hk,Nat.mod_one]
 ·simp [madeCells,Qal,hk]
theorem Qvz (w:World):(Instr.makeSlice 22 (J Y 2) (J Y 2)).run E w=.ok (V (U ⟨w.heap.size,0,I⟩) 2 2) (w.alloc (G #[J .u8 0,J .u8 0] 5)):=Qz1 2 (by omega) w
theorem Qrg (n:Nat)(w:World)(hn:n < 65536):Calls E 37 #[J Y (n:Int),J Y 2] w fun e w' =>
  e=D (V (U ⟨w.heap.size,0,I⟩) 2 2)∧w'=w.alloc (G #[J .u8 ((n:Int) / 256),J .u8 ((n:Int) % 256)] 5):=by
 have hmk:=Qvz w
 go_enter Tryz.func37,Tryz.ntmps37
 go_wp2
 go_loopw [11] (fun i wq=>(i=J Y 0∧wq=w.alloc (G #[J .u8 0,J .u8 0] 5))∨(i=J Y 1∧wq=w.alloc (G #[J .u8 ((n:Int) / 256),J .u8 0] 5))∨(i=J Y 2∧wq=w.alloc (G #[J .u8 ((n:Int) / 256),J .u8 ((n:Int) % 256)] 5))) (fun i _=>2 - (intOf i).toNat)
 case atStart=>exact .inl ⟨rfl,rfl⟩
 case round =>
  rcases hrel with ⟨rfl,rfl⟩ | ⟨rfl,rfl⟩ | ⟨rfl,rfl⟩
  ·go_wp2
   exact ⟨.inr (.inl ⟨rfl,trivial⟩),by simp [intOf]⟩
  ·go_wp2
   exact ⟨.inr (.inr ⟨rfl,trivial⟩),by simp [intOf]⟩
  ·go_wp2
   go_ret
   exact ⟨rfl,rfl⟩
def Qby (B:Nat)(w:World)(u:Value)(c s:Nat)(d:List Nat):Prop:=∃ a cap,u=.agg #[J Y (c:Int),J Y (s:Int),V a d.length cap]∧w.ownsRow B 5 1 (V a d.length cap) d.length (Qal d)
theorem Qfp (c s:Nat)(a:Option Addr)(cap:Nat)(d:List Nat)(w:World)(hl:d.length≤50000)(h:BRd w a d) :
  Calls E 20 #[J Y (c:Int),J Y (s:Int),V a d.length cap] w fun e w'=>∃ u,e=D u∧Qby w.heap.size w' u c s d∧Below w.heap.size w w':=by
 have hb1:Below w.heap.size w ((w.alloc (G #[J Y 0,J Y 0,V I 0 0] 38)).alloc (G #[V a d.length cap] 22)):=((Below.refl _ _).alloc (L _) _).alloc (by simp) _
 have hfl:Qgv [(a,cap,d)]=d:=by simp [Qgv]
 have K:=Qyq (w.heap.size+1) 0 1 [(a,cap,d)] ((w.alloc (G #[J Y 0,J Y 0,V I 0 0] 38)).alloc (G #[V a d.length cap] 22)) (by simp) (fun i x hx=>by
  match i with
  | 0 =>
   simp at hx
   subst hx
   simp [go_sem]
  | i+1=>simp at hx) (fun x hx=>by simp at hx; subst hx; exact h.below hb1) (by rw [hfl]; omega)
 rw [hfl] at K
 have K2:Hid (Calls E 36 #[V (U ⟨w.heap.size+1,0,I⟩) 1 1] ((w.alloc (G #[J Y 0,J Y 0,V I 0 0] 38)).alloc (G #[V a d.length cap] 22)) fun e w3=>∃ a9 c9,e=D (V a9 d.length c9)∧Hid (w3.ownsRow (w.heap.size+1) 5 1 (V a9 d.length c9) d.length (Qal d))∧Hid (Below w.heap.size w w3)∧w.heap.size < w3.heap.size ∧
   w3.cell? ⟨w.heap.size,0,I⟩=U (J Y 0)∧w3.cell? ⟨w.heap.size,1,I⟩=U (J Y 0)∧w3.cell? ⟨w.heap.size,2,I⟩=U (V I 0 0)∧w3.frozen? ⟨w.heap.size,0,I⟩=false∧w3.frozen? ⟨w.heap.size,1,I⟩=false∧w3.frozen? ⟨w.heap.size,2,I⟩=false):=by
  refine K.mono ?_
  rintro e w3 ⟨v,rfl,ho,hb3⟩
  obtain ⟨a9,c9,rfl⟩:=Qbs ho
  simp only [World.size_alloc] at ho hb3
  have hc:∀ j,w3.cell? ⟨w.heap.size,j,I⟩=_:=fun j=>hb3.cell (p:=⟨w.heap.size,j,I⟩) (by show w.heap.size < w.heap.size+1+1; omega)
  have hf:∀ j,w3.frozen? ⟨w.heap.size,j,I⟩=_:=fun j=>hb3.frozen (p:=⟨w.heap.size,j,I⟩) (by show w.heap.size < w.heap.size+1+1; omega)
  refine ⟨a9,c9,rfl,Qa0 ho (by omega),hb1.trans (hb3.mono (by omega)),by have:=hb3.size; simp at this; omega,?_,?_,?_,?_,?_,?_⟩
  ·rw [hc]; simp [go_sem]
  ·rw [hc]; simp [go_sem]
  ·rw [hc]; simp [go_sem]
  ·rw [hf]; simp [go_sem]
  ·rw [hf]; simp [go_sem]
  ·rw [hf]; simp [go_sem]
 clear K hb1 hfl h
 unfold Qby
 generalize d.length=n at *
 go_enter Tryz.func20,Tryz.ntmps20
 go_wp2_with fail
 refine K2.out.mono ?_
 rintro e w3 ⟨a9,c9,rfl,HO,HB,hz3,r0,r1,r2,f0,f1,f2⟩
 go_wp2_with fail
 refine bodyPost_ret (v:=.agg #[J Y c,J Y s,V a9 n c9]) (by simp [results,Tryz.results20,go_sem,r0,r1,r2]) rfl ⟨_,rfl,⟨a9,c9,rfl,?_⟩,?_⟩
 ·exact Qa0 (Qac (Qac (Qac HO.out (by omega) _ _) (by omega) _ _) (by omega) _ _) (by omega)
 ·exact ((HB.out.setCell (L _) _).setCell (L _) _).setCell (L _) _
def Qc3 (w:World)(X:Nat):Prop:=X < w.heap.size∧w.cell? ⟨X,0,I⟩=U (J Y 0)∧w.cell? ⟨X,1,I⟩=U (J Y 0)∧w.cell? ⟨X,2,I⟩=U (V I 0 0)∧w.frozen? ⟨X,0,I⟩=false∧w.frozen? ⟨X,1,I⟩=false∧w.frozen? ⟨X,2,I⟩=false
theorem Qc3.below {w w':World}{X B:Nat} (h:Qc3 w X) (hb:Below B w w') (hX:X < B):Qc3 w' X:=by
 obtain ⟨h0,h1,h2,h3,h4,h5,h6⟩:=h
 have hc:∀ j,w'.cell? ⟨X,j,I⟩=w.cell? ⟨X,j,I⟩:=fun j=>hb.cell (p:=⟨X,j,I⟩) hX
 have hf:∀ j,w'.frozen? ⟨X,j,I⟩=w.frozen? ⟨X,j,I⟩:=fun j=>hb.frozen (p:=⟨X,j,I⟩) hX
 exact ⟨Nat.lt_of_lt_of_le h0 hb.size,by rw [hc]; exact h1,by rw [hc]; exact h2,by rw [hc]; exact h3,by rw [hf]; exact h4,by rw [hf]; exact h5,by rw [hf]; exact h6⟩
theorem Qc3.made (w:World):Qc3 (w.alloc (G #[J Y 0,J Y 0,V I 0 0] 38)) w.heap.size:=by
 refine ⟨by simp,?_,?_,?_,?_,?_,?_⟩ <;> simp [go_sem]
theorem Qh3 (c s:Nat)(a:Option Addr)(cap n:Nat)(d:List Nat)(W:World)(X:Nat)(hn:d.length=n)(hl:n≤50000)(h:BRd W a d)(hX:Qc3 W X) :
  Calls E 20 #[J Y (c:Int),J Y (s:Int),V a n cap] W fun e w'=>∃ a9 c9,e=D (.agg #[J Y (c:Int),J Y (s:Int),V a9 n c9])∧Hid (w'.ownsRow W.heap.size 5 1 (V a9 n c9) n (Qal d))∧Hid (Below W.heap.size W w')∧Hid (Qc3 w' X):=by
 subst hn
 refine (Qfp c s a cap d W hl h).mono ?_
 rintro e w' ⟨u,rfl,⟨a9,c9,rfl,ho⟩,hb⟩
 exact ⟨a9,c9,rfl,ho,hb,hX.below hb hX.1⟩
