import Derived.Test.YtdojlejehjbliaaGreatDoorPA8
import Derived.Laws.BitsAllLaws
import Derived.Deep.RegionWith
namespace Go.Proofs.YtdojlejehjbliaaGreatDoor
set_option maxHeartbeats 4000000
open _root_.Go.Value renaming int → I,slice → J,bool → O
open _root_.Go.Proofs.Tryz renaming prog → V
open _root_.Option renaming none → Z,some → U
open _root_.Go.IntKind renaming i64 → Y
open _root_.Nat renaming le_refl → E
open _root_.Go.Ending renaming returned → D
open _root_.Array renaming getElem?_eq_some_iff → R
open _root_.Go.World renaming block_lt_of_cell? → T
open _root_.Go.RowKit.Below renaming refl → M
open _root_.Go.Obj renaming cells → N
open Go.RowKit
set_option maxRecDepth 100000
def Qct (v:Value)(A:Array Value)(u:Value):Array Value:=#[v]++A++#[u]
def zA7:Array Value:=#[I Y 0,J Z 0 0,I .u32 0,I Y 0,I Y 0,J Z 0 0,J Z 0 0]
def zU:Array Value:=Qct (J Z 0 0) zA7 (J Z 0 0)
def UC (C:Array Value):Prop:=C.size=9∧C.all (·.oneCell')=true
theorem UC.upd {v u:Value}{A:Array Value} (hv:v.oneCell'=true) (hu:u.oneCell'=true) (hA:A.size=7) (h2:A.all (·.oneCell')=true):UC (Qct v A u):=by
 refine ⟨by simp [Qct,hA],?_⟩
 unfold Qct
 simp only [Array.all_append,h2]
 simp [hv,hu]
theorem UC.zero:UC zU:=UC.upd rfl rfl rfl (by simp [zA7,Value.oneCell'])
theorem infoU:(V.info? 36).map (·.size)=U 9:=by kernel_rfl
section
variable {P:Program}{a:Act}{w w':World}{K:Act→World→Prop}{Q:Exit→Act→World→Prop}{dst:Option Tmp}{ty:TypeId}{pos:String}{after:Array Edge}{gd:Option (Nat×Bool)}
theorem Qdv (x y:Operand):Oper.wp P { dst:=dst,op:=.store 36 x y,type:=ty,pos:=pos,after:=after,guard:=gd } a w K Q=Qdl P { dst:=dst,op:=.store 36 x y,type:=ty,pos:=pos,after:=after,guard:=gd } a w K Q:=rfl
theorem Qep (x:Operand):Oper.wp P { dst:=dst,op:=.load 36 x,type:=ty,pos:=pos,after:=after,guard:=gd } a w K Q=Qdl P { dst:=dst,op:=.load 36 x,type:=ty,pos:=pos,after:=after,guard:=gd } a w K Q:=rfl
theorem keptU_alloc:Oper.wp P { dst:=dst,op:=.alloc 36,type:=ty,pos:=pos,after:=after,guard:=gd } a w K Q=Qdl P { dst:=dst,op:=.alloc 36,type:=ty,pos:=pos,after:=after,guard:=gd } a w K Q:=rfl
theorem Qd6 (xs:Array (Nat×Operand)):Oper.wp P { dst:=dst,op:=.build 36 xs,type:=ty,pos:=pos,after:=after,guard:=gd } a w K Q=Qdl P { dst:=dst,op:=.build 36 xs,type:=ty,pos:=pos,after:=after,guard:=gd } a w K Q:=rfl
theorem Qa4 (x y:Operand)(p v:Value)(hx:a.eval x=p)(hy:a.eval y=v)(hr:(Instr.storeAt 36 p v).run P w=.ok () w')(h:K (a.put dst undef) w'):Qdl P { dst:=dst,op:=.store 36 x y,type:=ty,pos:=pos,after:=after,guard:=gd } a w K Q:=by
 unfold Qdl Oper.wp execOp
 simp only [hx,hy,Sem.run_bind,hr,Result.andThen_ok,Sem.run_pure]
 exact h
theorem Qee (x:Operand)(p v:Value)(hx:a.eval x=p)(hr:(Instr.loadAt 36 p).run P w=.ok v w)(h:K (a.put dst v) w):Qdl P { dst:=dst,op:=.load 36 x,type:=ty,pos:=pos,after:=after,guard:=gd } a w K Q:=by
 unfold Qdl Oper.wp execOp
 simp only [hx,Sem.run_bind,hr,Result.andThen_ok,Sem.run_pure]
 exact h
theorem Qbc (v:Value)(hr:(Instr.alloc 36 true (.tuple #[])).run P w=.ok v w')(h:K (a.put dst v) w'):Qdl P { dst:=dst,op:=.alloc 36,type:=ty,pos:=pos,after:=after,guard:=gd } a w K Q:=by
 unfold Qdl Oper.wp execOp
 simp only [Sem.run_bind,hr,Result.andThen_ok,Sem.run_pure]
 exact h
theorem Qdc (v:Value)(hr:(Instr.build 36 #[]).run P w=.ok v w)(h:K (a.put dst v) w):Qdl P { dst:=dst,op:=.build 36 #[],type:=ty,pos:=pos,after:=after,guard:=gd } a w K Q:=by
 unfold Qdl Oper.wp execOp
 have e:((#[]:Array (Nat×Operand)).map fun (i,x)=>(i,a.eval x))=#[]:=by simp
 simp only [e,Sem.run_bind,hr,Result.andThen_ok,Sem.run_pure]
 exact h
theorem Qcr (i j:Nat)(x y:Operand)(p q v:Value)(hx:a.eval x=p)(hy:a.eval y=q)(hr:(Instr.build 36 #[(i,p),(j,q)]).run P w=.ok v w)(h:K (a.put dst v) w):Qdl P { dst:=dst,op:=.build 36 #[(i,x),(j,y)],type:=ty,pos:=pos,after:=after,guard:=gd } a w K Q:=by
 unfold Qdl Oper.wp execOp
 have e:(#[(i,x),(j,y)].map fun (i,x)=>(i,a.eval x))=#[(i,p),(j,q)]:=by simp [hx,hy]
 simp only [e,Sem.run_bind,hr,Result.andThen_ok,Sem.run_pure]
 exact h
end
theorem Qco (w:World):(Instr.alloc 36 true (.tuple #[])).run V w=.ok (.pointer (U ⟨w.heap.size,0,Z⟩)) (w.alloc (N zU 36)):=by kernel_rfl
theorem Qe2 (w:World):(Instr.build 36 #[]).run V w=.ok (.agg zU) w:=by kernel_rfl
theorem Qeu (a1 a2:Option Addr)(n1 n2 c1 c2:Nat)(w:World):(Instr.build 36 #[(0,J a1 n1 c1),(2,J a2 n2 c2)]).run V w=.ok (.agg (Qct (J a1 n1 c1) zA7 (J a2 n2 c2))) w:=by kernel_rfl
theorem Qik {w:World}{g:Nat}{C C0:Array Value}{t:TypeId} (h:w.heap[g]?=U (N C0 t (0,0))) (h0:C0.size=9) (hC:UC C):(Instr.storeAt 36 (.pointer (U ⟨g,0,Z⟩)) (.agg C)).run V w=.ok () (w.setCells g 0 C.toList) :=
 run_storeAt_mid (P:=V) w g 0 36 C (Qek h _ (by rw [hC.1,h0]; omega)) (by rw [infoU,hC.1]) hC.2
theorem Qj4 {w:World}{g:Nat}{C:Array Value} (h:w.rangeAt g 0 C.toList) (hC:UC C):(Instr.loadAt 36 (.pointer (U ⟨g,0,Z⟩))).run V w=.ok (.agg C) w:=by
 have:=run_loadAt_mid (P:=V) w g 0 36 C.toList _ h Tryz.underlying36 rfl (by rw [infoU]; simp [hC.1])
 simpa using this
theorem Qx4 {W:World}{X:Nat} (h:W.heap[X]?=U (N #[I Y 0,I Y 0,J Z 0 0] 38 (0,0))):Qc3 W X:=by
 have hr:=Qai h
 have hf:∀ j,W.frozen? ⟨X,j,Z⟩=false:=fun j=>by simp [World.frozen?,h]
 exact ⟨(R.1 h).1,by have:=hr 0 _ rfl; simpa using this,by have:=hr 1 _ rfl; simpa using this,by have:=hr 2 _ rfl; simpa using this,hf 0,hf 1,hf 2⟩
structure UW (w W:World):Prop where
 bU:W.heap[w.heap.size]?=U (N zU 36 (0,0))
 bN:W.heap[w.heap.size+1]?=U (N #[I Y 0,I Y 0,J Z 0 0] 38 (0,0))
 bel:Below w.heap.size w W
theorem UW.later {w W W':World}(h:UW w W)(hb:Below W.heap.size W W'):UW w W' :=
 ⟨by rw [hb.block _ (R.1 h.bU).1]; exact h.bU,by rw [hb.block _ (R.1 h.bN).1]; exact h.bN,h.bel.trans (hb.mono h.bel.size)⟩
theorem UW.made (w:World):UW w ((w.alloc (N zU 36)).alloc (N #[I Y 0,I Y 0,J Z 0 0] 38)):=by
 refine ⟨?_,?_,((M _ _).alloc (E _) _).alloc (by simp) _⟩
 ·unfold World.alloc
  simp only
  rw [Array.getElem?_push_lt (by simp),Array.getElem_push_eq]
 ·unfold World.alloc
  simp only
  have:w.heap.size+1=(w.heap.push (N zU 36)).size:=by simp
  rw [this,Array.getElem?_push_size]
structure Jbu (w W5:World) (k s:Nat) (d:List Nat) (a9:Option Addr) (n c9:Nat):Prop where
 rU:(W5.setCells (w.heap.size+1) 0 [I Y (k:Int),I Y (s:Int),J a9 n c9]).rangeAt w.heap.size 0 zU.toList
 rN:(W5.setCells (w.heap.size+1) 0 [I Y (k:Int),I Y (s:Int),J a9 n c9]).rangeAt (w.heap.size+1) 0 [I Y (k:Int),I Y (s:Int),J a9 n c9]
 own:(W5.setCells (w.heap.size+1) 0 [I Y (k:Int),I Y (s:Int),J a9 n c9]).ownsRow w.heap.size 5 1 (J a9 n c9) n (Qal d)
 bel:Below w.heap.size w (W5.setCells (w.heap.size+1) 0 [I Y (k:Int),I Y (s:Int),J a9 n c9])
theorem Qom (w W:World)(hW:UW w W)(k s:Nat)(a:Option Addr)(cap n:Nat)(d:List Nat)(hn:d.length=n)(hl:n≤50000)(h:BRd W a d) :
  Calls V 20 #[I Y (k:Int),I Y (s:Int),J a n cap] W fun e w3=>∃ a9 c9 W5,e=D (.agg #[I Y (k:Int),I Y (s:Int),J a9 n c9])∧Hid ((Instr.storeAt 36 (.pointer (U ⟨w.heap.size,0,Z⟩)) (.agg zU)).run V w3=.ok () W5)∧Hid (Qc3 W5 (w.heap.size+1))∧Hid (Jbu w W5 k s d a9 n c9):=by
 subst hn
 refine (Qfp k s a cap d W hl h).mono ?_
 rintro e w3 ⟨u,rfl,⟨a9,c9,rfl,ho⟩,hb⟩
 have h3:=hW.later hb
 have h5:(w3.setCells w.heap.size 0 zU.toList).heap[w.heap.size]?=U (N zU 36 (0,0)):=Qex h3.bU rfl
 have h6:(w3.setCells w.heap.size 0 zU.toList).heap[w.heap.size+1]?=U (N #[I Y 0,I Y 0,J Z 0 0] 38 (0,0)):=by rw [Qax (by omega)]; exact h3.bN
 have hk:Qae (fun x=>x=w.heap.size∨x=w.heap.size+1) w3 ((w3.setCells w.heap.size 0 zU.toList).setCells (w.heap.size+1) 0 [I Y (k:Int),I Y (s:Int),J a9 d.length c9]):=((Qae.refl _ _).setCells _ 0 _ (.inl (.inl rfl))).setCells _ 0 _ (.inl (.inr rfl))
 have hsz:w.heap.size+1 < W.heap.size:=(R.1 hW.bN).1
 refine ⟨a9,c9,_,rfl,Qik h3.bU rfl UC.zero,Qx4 h6,⟨Qb7 (Qai h5) (by omega),?_,?_,?_⟩⟩
 ·exact Qb2 (C0:=#[I Y 0,I Y 0,J Z 0 0]) (C:=#[I Y (k:Int),I Y (s:Int),J a9 d.length c9]) h6 (by simp)
 ·exact Qa0 (Qas ho hk (fun x hx=>by omega)) (by omega)
 ·exact h3.bel.trans (hk.below _ h3.bel.size (fun x e=>by omega))
def pfx (A:Nat)(L:Int):Value:=.agg #[I .u32 (A:Int),I Y L]
theorem Qxe (n:Nat):(4294967295 * 2 ^ (32 - n) % 4294967296:Int)=((Qgx n:Nat):Int):=by
 have h1:=Qw4 n
 have h0:=Nat.two_pow_pos (32 - n)
 have e:(2:Int) ^ (32 - n)=((2 ^ (32 - n):Nat):Int):=by simp
 rw [e]
 unfold Qgx
 generalize 2 ^ (32 - n)=m at *
 omega
theorem Qzo (A i:Nat):((A:Int) / 2 ^ (31 - i)).tmod 2=((Qg3 A i:Nat):Int):=by
 unfold Qg3
 have e:(A:Int) / 2 ^ (31 - i)=((A / 2 ^ (31 - i):Nat):Int):=by simp
 rw [e,Int.tmod_eq_emod_of_nonneg (Int.natCast_nonneg _)]
 omega
theorem Qzv (A n:Nat)(h:A < 4294967296)(hn:n≤32):bits .and .u32 (A:Int) (Qgx n:Int)=((Qd2 A n:Nat):Int):=by
 rw [u32_and_nat A (Qgx n) h (Qs1 n),Qvt A n h hn]
theorem Qxa (n:Nat)(w:World)(hn:n≤32):Calls V 121 #[I Y (n:Int)] w fun e w'=>e=D (I .u32 (Qgx n:Int))∧w'=w:=by
 go_enter Tryz.func121,Tryz.ntmps121
 go_wp2
 go_ret
 exact ⟨Qfu (Qxe n),rfl⟩
theorem Qy0 (A i:Nat)(w:World)(hi:i < 32):Calls V 71 #[I .u32 (A:Int),I Y (i:Int)] w fun e w'=>e=D (I .u32 (Qg3 A i:Int))∧w'=w:=by
 go_enter Tryz.func71,Tryz.ntmps71
 go_wp2
 go_ret
 exact ⟨Qfu (Qzo A i),rfl⟩
theorem Qtu (A n:Nat)(w:World)(hA:A < 4294967296)(hn:n≤32):Calls V 92 #[I .u32 (A:Int),I Y (n:Int)] w fun e w'=>e=D (.tuple #[pfx (Qd2 A n) n,O true])∧Below w.heap.size w w':=by
 have d0:decide ((n:Int) < 0)=false:=decide_eq_false (by omega)
 have d1:decide ((32:Int) < (n:Int))=false:=decide_eq_false (by omega)
 go_enter Tryz.func92,Tryz.ntmps92
 go_wp2_with fail
 refine (Qxa n _ hn).mono ?_
 rintro e w1 ⟨rfl,rfl⟩
 go_wp2
 refine bodyPost_ret (v:=.tuple #[pfx (Qd2 A n) n,O true]) (by simp [results,Tryz.results92,go_sem,pfx,Qzv A n hA hn]) rfl ⟨rfl,(M _ _).alloc (E _) _⟩
theorem Ql7 (A k x:Nat)(hk:k < 32)(hx:x=Qd2 A k):(x:Int)+(Qg3 A k:Int) * 2 ^ (31 - k)=((Qd2 A (k+1):Nat):Int):=by
 rw [Qr2 A k hk,hx]
 simp
theorem Qve (A k x:Nat)(hA:A < 4294967296)(hk:k < 32)(hx:x=Qd2 A k):(x:Int)+(Qg3 A k:Int) * 2 ^ (31 - k) < 4294967296:=by
 rw [Ql7 A k x hk hx]
 have:=Qwf A (k+1) hA
 omega
theorem Qux (A k x:Nat)(hA:A < 4294967296)(hk:k < 32)(hx:x=Qd2 A k) :
  IntKind.u32.wrap ((x:Int)+IntKind.u32.wrap ((Qg3 A k:Int) * 2 ^ min (IntKind.u64.wrap (IntKind.i64.wrap (31 - (k:Int)))).toNat 32))=((Qd2 A (k+1):Nat):Int):=by
 have e:min (IntKind.u64.wrap (IntKind.i64.wrap (31 - (k:Int)))).toNat 32=31 - k:=by
  rw [IntKind.wrap_i64,IntKind.wrap_u64]; omega
 rw [e,← Ql7 A k x hk hx]
 have h1:=Qve A k x hA hk hx
 have h0:0≤(Qg3 A k:Int) * 2 ^ (31 - k):=by
  have e2:(Qg3 A k:Int) * 2 ^ (31 - k)=((Qg3 A k * 2 ^ (31 - k):Nat):Int):=by simp
  rw [e2]; exact Int.natCast_nonneg _
 generalize (Qg3 A k:Int) * 2 ^ (31 - k)=z at *
 rw [IntKind.wrap_u32,IntKind.wrap_u32]
 omega
theorem Quz (w0:World)(a b v:Value)(t:TypeId)(m h:Nat)(hh:w0.heap.size=h):((w0.alloc (N #[a,b] t)).drewN m).setCell ⟨h,0,Z⟩ v=(w0.alloc (N #[v,b] t)).drewN m:=by
 subst hh
 have:=World.setCell_alloc_new (w:=w0) #[a,b] t 0 v
 show ((w0.alloc (N #[a,b] t)).setCell ⟨w0.heap.size,0,Z⟩ v).drewN m=_
 rw [this]
 rfl
theorem Qvp (A n:Nat)(w:World)(hA:A < 4294967296)(hn:n≤32):Calls V 46 #[I .u32 (A:Int),I Y (n:Int)] w fun e w'=>e=D (.tuple #[pfx (Qd2 A n) n,O true])∧Below w.heap.size w w':=by
 have d0:decide ((n:Int) < 0)=false:=decide_eq_false (by omega)
 have d1:decide ((32:Int) < (n:Int))=false:=decide_eq_false (by omega)
 go_enter Tryz.func46,Tryz.ntmps46
 go_wp2
 go_loopw [7] (fun i wq=>∃ k x m:Nat,k≤n∧i=I Y k∧Hid (x=Qd2 A k)∧wq=((w.alloc (Obj.cells #[I .u32 0,I Y 0] 94)).alloc (Obj.cells #[I .u32 (x:Int),I Y n] 94)).drewN m) (fun i _=>n - (intOf i).toNat)
 case atStart=>exact ⟨0,0,0,Nat.zero_le _,rfl,(Qif A hA).symm,rfl⟩
 case round =>
  obtain ⟨k,x,m,hk,rfl,HX,rfl⟩:=hrel
  have hb:Qg3 A k < 2:=Qwm A k
  by_cases hlt:k < n
  ·have hx:=Qve A k x hA (by omega) HX.out
   have HS:Hid (((x:Int)+(Qg3 A k:Int) * 2 ^ (31 - k))=((Qd2 A (k+1):Nat):Int)):=Ql7 A k x (by omega) HX.out
   go_wp2_with fail
   go_region_with ((go_at_call 71; refine (Qy0 A k _ (by omega)).mono ?_; rintro e w1 ⟨rfl,rfl⟩))
   all_goals rw [Qux A k x hA (by omega) HX.out,Quz _ _ _ _ _ _ _ (by simp)]
   all_goals go_wp2
   all_goals exact ⟨⟨k+1,Qd2 A (k+1),m+1,by omega,by go_num,rfl,rfl⟩,by simp [intOf]; omega⟩
  ·have hkn:k=n:=by omega
   subst hkn
   clear hlt hk
   go_wp2
   exact bodyPost_ret (v:=.tuple #[pfx (Qd2 A k) k,O true]) (by simp [results,Tryz.results46,go_sem,pfx,HX.out]) rfl ⟨rfl,((Qaj (((M _ _).alloc (E _) _).alloc (by simp) _) m).setCell (by simp) _).setCell (by simp) _⟩
theorem Tryz.infoPfx:(V.info? 94).map (fun i=>(i.zero,i.size,i.bytes))=U (U (.agg #[I .u32 0,I Y 0]),2,16):=by kernel_rfl
theorem elemPfx:Qsr 29 94 2 16:=by
 obtain ⟨i,h1,h2,h3,h4⟩:=Qcz Tryz.infoPfx
 exact ⟨Tryz.underlying29,⟨i,_,h1,h2,h3,h4,rfl⟩,by omega,by omega⟩
def pcells:List (Nat×Nat)→List Value
 | []=>[]
 | p :: r=>I .u32 (p.1:Int) :: I Y (p.2:Int) :: pcells r
theorem Qj2 (l:List (Nat×Nat))(p:Nat×Nat):pcells (l++[p])=pcells l++[I .u32 (p.1:Int),I Y (p.2:Int)]:=by
 induction l with
 | nil=>rfl
 | cons a l ih=>simp only [List.cons_append,pcells,ih]
theorem Qe6 (n:Nat)(w:World)(hn:n≤1000):Calls V 90 #[I Y (n:Int)] w fun e w'=>e=D (I Y (Qgq n:Int))∧w'=w:=by
 go_enter Tryz.func90,Tryz.ntmps90
 go_wp2
 go_ret
 exact ⟨Qfu (by unfold Qgq; omega),rfl⟩
theorem Qrb (i:Nat)(w:World)(hi:i < 4):Calls V 91 #[I Y (i:Int)] w fun e w'=>e=D (I Y ((8 * (3 - i):Nat):Int))∧w'=w:=by
 go_enter Tryz.func91,Tryz.ntmps91
 go_wp2
 go_ret
 exact ⟨Qfu (by omega),rfl⟩
theorem Qvr (b o m c:Nat)(f:Nat→Nat)(w:World)(hm:0 < m)(hmc:m≤c)(hm2:m≤100000)(hf:f 0 < 256)(h0:w.cell? ⟨b,o,Z⟩=U (I .u8 (f 0:Int)))(hk:Qsb f m 0=false) :
  Calls V 64 #[J (U ⟨b,o,Z⟩) m c] w fun e w'=>e=D (.tuple #[pfx 0 0,J Z 0 0,O false])∧Below w.heap.size w w':=by
 have hlt:=T w _ h0
 simp only at hlt
 have hok:=of_decide_eq_false hk
 have m0:(0:Int) < (m:Int):=by omega
 have m1:(1:Int)≤(m:Int):=by omega
 have m2:(m:Int)≤(c:Int):=by omega
 have e1:((m:Int) - 1)=((m - 1:Nat):Int):=by omega
 generalize f 0=n at *
 by_cases h32:32 < n
 ·have i32:(32:Int) < (n:Int):=by omega
  clear hok
  go_enter Tryz.func64,Tryz.ntmps64
  go_wp2_with ((go_at_call 90; refine (Qe6 n _ (by omega)).mono ?_; rintro e w1 ⟨rfl,rfl⟩))
  all_goals exact bodyPost_ret (v:=.tuple #[pfx 0 0,J Z 0 0,O false]) (by simp [results,Tryz.results64,go_sem,pfx]) rfl ⟨rfl,(M _ _).alloc (E _) _⟩
 ·have d32:decide ((32:Int) < (n:Int))=false:=decide_eq_false (by omega)
  have hs:((m - 1:Nat):Int) < (Qgq n:Int):=by omega
  clear hok
  go_enter Tryz.func64,Tryz.ntmps64
  go_wp2_with ((go_at_call 90; refine (Qe6 n _ (by omega)).mono ?_; rintro e w1 ⟨rfl,rfl⟩))
  all_goals exact bodyPost_ret (v:=.tuple #[pfx 0 0,J Z 0 0,O false]) (by simp [results,Tryz.results64,go_sem,pfx]) rfl ⟨rfl,(M _ _).alloc (E _) _⟩
theorem Jbe (f:Nat→Nat)(k x:Nat)(hk:k < 4)(hf:f (1+k) < 256)(hx:x < 4294967296)(e:x=Qca f 1 k) :
  bits .or .u32 (x:Int) ((f (1+k):Int) * 2 ^ (8 * (3 - k)) % 4294967296)=((Qca f 1 (k+1):Nat):Int):=by
 have hlt:f (1+k) * 2 ^ (8 * (3 - k)) < 4294967296:=by
  have h1:f (1+k) * 2 ^ (8 * (3 - k)) < 256 * 2 ^ (8 * (3 - k)):=Nat.mul_lt_mul_of_pos_right hf (Nat.two_pow_pos _)
  have h2:2 ^ (8 * (3 - k))≤2 ^ 24:=Nat.pow_le_pow_right (by omega) (by omega)
  simp only [Nat.reducePow] at h2
  omega
 have e2:(f (1+k):Int) * 2 ^ (8 * (3 - k))=((f (1+k) * 2 ^ (8 * (3 - k)):Nat):Int):=by simp
 rw [e2,Int.emod_eq_of_lt (Int.natCast_nonneg _) (by omega),u32_or_nat x _ hx hlt,e,Qme f 1 k hk hf]
theorem Qu2 (b o m c:Nat)(f:Nat→Nat)(w:World)(hmc:m≤c)(hm2:m≤100000)(hf:∀ i,i < m→f i < 256)(hcell:∀ i,i < m→w.cell? ⟨b,o+i,Z⟩=U (I .u8 (f i:Int)))(n s:Nat)(hn:f 0=n)(hs:Qgq n=s)(hn32:n≤32)(hsm:1+s≤m)(hc1:¬ c=1) :
  Calls V 64 #[J (U ⟨b,o,Z⟩) m c] w fun e w'=>∃ a' c',e=D (.tuple #[pfx (Qd2 (Qca f 1 s) n) n,J a' (m - 1 - s) c',O true])∧m - 1 - s≤c'∧(1+s < m→a'=U ⟨b,o+(1+s),Z⟩)∧Below w.heap.size w w':=by
 have h0:=hcell 0 (by omega)
 rw [Nat.add_zero,hn] at h0
 have hlt:=T w _ h0
 simp only at hlt
 have hs4:s≤4:=by have:=Qpn n hn32; omega
 have hu:Qca f 1 s < 4294967296:=Qd4 f 1 s hs4 (fun q hq=>hf (1+q) (by omega))
 have m0:(0:Int) < (m:Int):=by omega
 have m1:(1:Int)≤(m:Int):=by omega
 have m2:(m:Int)≤(c:Int):=by omega
 have m3:(s:Int)≤((m - 1:Nat):Int):=by omega
 have m4:(s:Int)≤((c - 1:Nat):Int):=by omega
 have m5:((m - 1:Nat):Int)≤((c - 1:Nat):Int):=by omega
 have d32:decide ((32:Int) < (n:Int))=false:=decide_eq_false (by omega)
 have ds:decide (m - 1 < s)=false:=decide_eq_false (by omega)
 have HC:=Qaa hcell
 have HF:=Qaa hf
 have HU:=Qaa hu
 have HS:=Qaa hs
 clear hcell hf hu hs hn
 go_enter Tryz.func64,Tryz.ntmps64
 go_wp2_with ((go_at_call 90; refine (Qe6 n _ (by omega)).mono ?_; rw [HS.out]; rintro e w1 ⟨rfl,rfl⟩))
 go_loop [7,33] (fun r i=>∃ k x:Nat,k≤s∧i=I Y k∧r=I .u32 (x:Int)∧Hid (x=Qca f 1 k)) (fun _ i=>s - (intOf i).toNat)
 case atStart=>exact ⟨0,0,Nat.zero_le _,rfl,rfl,rfl⟩
 case round =>
  obtain ⟨k,x,hk,rfl,rfl,HX⟩:=hrel
  by_cases hlt2:k < s
  ·have hck:w.cell? ⟨b,o+1+k,Z⟩=U (I .u8 (f (1+k):Int)):=by rw [Nat.add_assoc]; exact HC.out (1+k) (by omega)
   have hfk:=HF.out (1+k) (by omega)
   have hx:x < 4294967296:=by rw [HX.out]; exact Qd4 f 1 k (by omega) (fun q hq=>HF.out (1+q) (by omega))
   have hk0:(0:Int)≤(k:Int):=Int.natCast_nonneg _
   have hk1:(k:Int) < (s:Int):=by omega
   have hk4:k < 4:=by omega
   have HV:=Qaa (Jbe f k x hk4 hfk hx HX.out)
   generalize f (1+k)=y at *
   have hsh:(8 * (3 - k):Nat) < 32:=by omega
   generalize hq:8 * (3 - k)=q at *
   go_wp2_with ((go_at_call 91; refine (Qrb k _ hk4).mono ?_; rw [hq]; rintro e w1 ⟨rfl,rfl⟩))
   exact ⟨⟨k+1,Qca f 1 (k+1),by omega,by go_num,Qty HV.out,rfl⟩,by simp [intOf]; omega⟩
  ·have hks:k=s:=by omega
   subst hks
   clear hlt2 hk
   have HM:Hid (x < 4294967296):=by show x < 4294967296; rw [HX.out]; exact HU.out
   go_wp2_with ((go_at_call 92; refine (Qtu x n _ HM.out hn32).mono ?_; rintro e w1 ⟨rfl,hb⟩; unfold pfx; have r0:w1.cell? ⟨w.heap.size,0,Z⟩=U (I .u32 0):=(by rw [hb.cell (p:=⟨w.heap.size,0,Z⟩) (by simp)]; simp [go_sem]); have r1:w1.cell? ⟨w.heap.size,1,Z⟩=U (I Y 0):=(by rw [hb.cell (p:=⟨w.heap.size,1,Z⟩) (by simp)]; simp [go_sem]); have z0:w1.frozen? ⟨w.heap.size,0,Z⟩=false:=(by rw [hb.frozen (p:=⟨w.heap.size,0,Z⟩) (by simp)]; simp [go_sem]); have z1:w1.frozen? ⟨w.heap.size,1,Z⟩=false:=(by rw [hb.frozen (p:=⟨w.heap.size,1,Z⟩) (by simp)]; simp [go_sem]); have hz:w.heap.size < w1.heap.size:=(by have:=hb.size; simp at this; omega); have HB:=Qaa hb; clear hb))
   go_region
   generalize ha1:(if c - 1=k then U (⟨b,o+1,Z⟩:Addr) else U ⟨b,o+1+k,Z⟩)=a1
   have HA1:=Qaa ha1
   clear ha1
   go_wp2
   refine bodyPost_ret (v:=.tuple #[.agg #[I .u32 (Qd2 x n:Int),I Y (n:Int)],J a1 (m - 1 - k) (c - 1 - k),O true]) (by simp [results,Tryz.results64,go_sem,r0,r1,hz]) rfl ⟨_,_,by rw [HX.out]; rfl,by omega,fun h=>by rw [← HA1.out,if_neg (by omega),Nat.add_assoc],?_⟩
   exact ((((((M _ _).alloc (E _) _).trans (HB.out.mono (by simp))).setCell (E _) _).setCell (E _) _).alloc (by simp; omega) _).drew
theorem Qth (b o:Nat)(w:World)(h0:w.cell? ⟨b,o,Z⟩=U (I .u8 0)) :
  Calls V 64 #[J (U ⟨b,o,Z⟩) 1 1] w fun e w'=>∃ a' c',e=D (.tuple #[pfx 0 0,J a' 0 c',O true])∧Below w.heap.size w w':=by
 have hlt:=T w _ h0
 simp only at hlt
 have HM:Hid (Qd2 0 0=0):=Qif 0 (by omega)
 have HS:Hid (Qgq 0=0):=rfl
 go_enter Tryz.func64,Tryz.ntmps64
 go_wp2_with ((go_at_call 90; refine (Qe6 0 _ (by omega)).mono ?_; rw [HS.out]; rintro e w1 ⟨rfl,rfl⟩))
 go_loop [7,33] (fun r i=>i=I Y 0∧r=I .u32 0) (fun _ i=>0 - (intOf i).toNat)
 case atStart=>exact ⟨rfl,rfl⟩
 case round =>
  obtain ⟨rfl,rfl⟩:=hrel
  go_wp2_with ((go_at_call 92; refine (Qtu 0 0 _ (by omega) (by omega)).mono ?_; rw [HM.out]; rintro e w1 ⟨rfl,hb⟩; unfold pfx; have r0:w1.cell? ⟨w.heap.size,0,Z⟩=U (I .u32 0):=(by rw [hb.cell (p:=⟨w.heap.size,0,Z⟩) (by simp)]; simp [go_sem]); have r1:w1.cell? ⟨w.heap.size,1,Z⟩=U (I Y 0):=(by rw [hb.cell (p:=⟨w.heap.size,1,Z⟩) (by simp)]; simp [go_sem]); have z0:w1.frozen? ⟨w.heap.size,0,Z⟩=false:=(by rw [hb.frozen (p:=⟨w.heap.size,0,Z⟩) (by simp)]; simp [go_sem]); have z1:w1.frozen? ⟨w.heap.size,1,Z⟩=false:=(by rw [hb.frozen (p:=⟨w.heap.size,1,Z⟩) (by simp)]; simp [go_sem]); have hz:w.heap.size < w1.heap.size:=(by have:=hb.size; simp at this; omega); have HB:=Qaa hb; clear hb))
  go_region
  go_wp2
  refine bodyPost_ret (v:=.tuple #[.agg #[I .u32 0,I Y 0],J (U ⟨b,o,Z⟩) 0 0,O true]) (by simp [results,Tryz.results64,go_sem,r0,r1,hz]) rfl ⟨_,_,rfl,?_⟩
  exact ((((((M _ _).alloc (E _) _).trans (HB.out.mono (by simp))).setCell (E _) _).setCell (E _) _).alloc (by simp; omega) _).drew
theorem Qr7 (f:Nat→Nat)(len i:Nat)(hi:i≤len):Qsb (fun j=>f (i+j)) (len - i) 0=Qsb f len i:=by
 unfold Qsb
 rw [Bool.eq_iff_iff]
 simp only [Nat.add_zero,decide_eq_true_eq]
 omega
theorem Qwn (b off len i c:Nat)(f:Nat→Nat)(w:World)(hi:i < len)(hc:len - i≤c)(hl:len≤100000)(hf:∀ j,j < len→f j < 256)(hcell:∀ j,j < len→w.cell? ⟨b,off+j,Z⟩=U (I .u8 (f j:Int)))(hk:Qsb f len i=true) :
  Calls V 64 #[J (U ⟨b,off+i,Z⟩) (len - i) c] w fun e w'=>∃ a' c',e=D (.tuple #[pfx (Qf3 f i).1 ((Qf3 f i).2:Nat),J a' (len - (i+1+Qgq (f i))) c',O true])∧len - (i+1+Qgq (f i))≤c'∧(i+1+Qgq (f i) < len→a'=U ⟨b,off+(i+1+Qgq (f i)),Z⟩)∧Below w.heap.size w w':=by
 obtain ⟨h1,h2⟩:=of_decide_eq_true hk
 have hn:Qca (fun j=>f (i+j)) 1 (Qgq (f i))=Qca f (i+1) (Qgq (f i)):=Qf0 _ _ _ _ _ (fun q _=>by show f (i+(1+q))=f (i+1+q); rw [Nat.add_assoc])
 by_cases hc1:c=1
 ·subst hc1
  have e1:len - i=1:=by omega
  have e2:f i=0:=by unfold Qgq at h2; omega
  have h0:=hcell i hi
  rw [e2] at h0
  rw [e1]
  refine (Qth b (off+i) w h0).mono ?_
  rintro e w' ⟨a',c',rfl,hb⟩
  refine ⟨a',c',?_,by rw [e2]; omega,fun h=>by rw [e2] at h; omega,hb⟩
  have e3:Qf3 f i=(0,0):=by
   unfold Qf3
   rw [e2]
   show (Qd2 (Qca f (i+1) 0) 0,0)=(0,0)
   rw [Qca,Qif 0 (by omega)]
  rw [e3,e2,show len - (i+1+Qgq 0)=0 from by omega]
  rfl
 ·refine (Qu2 b (off+i) (len - i) c (fun j=>f (i+j)) w hc (by omega) (fun j hj=>hf (i+j) (by omega)) (fun j hj=>by rw [Nat.add_assoc]; exact hcell (i+j) (by omega)) (f i) (Qgq (f i)) rfl rfl h1 (by omega) hc1).mono ?_
  rintro e w' ⟨a',c',rfl,hc',ha',hb⟩
  refine ⟨a',c',?_,by omega,fun h=>by rw [ha' (by omega)]; congr 2; omega,hb⟩
  rw [hn,show len - i - 1 - Qgq (f i)=len - (i+1+Qgq (f i)) from by omega]
  rfl
theorem Qub (b off len i c:Nat)(f:Nat→Nat)(w:World)(hi:i < len)(hc:len - i≤c)(hl:len≤100000)(hf:∀ j,j < len→f j < 256)(hcell:∀ j,j < len→w.cell? ⟨b,off+j,Z⟩=U (I .u8 (f j:Int)))(hk:Qsb f len i=false) :
  Calls V 64 #[J (U ⟨b,off+i,Z⟩) (len - i) c] w fun e w'=>e=D (.tuple #[pfx 0 0,J Z 0 0,O false])∧Below w.heap.size w w' :=
 Qvr b (off+i) (len - i) c (fun j=>f (i+j)) w (by omega) hc (by omega) (hf i hi) (hcell i hi) (by rw [Qr7 f len i (by omega)]; exact hk)
def Qm2 (w w':World)(r:Option (List (Nat×Nat)))(e:Ending):Prop :=
 match r with
 | none=>e=D (.tuple #[J Z 0 0,O false])
 | some ps=>∃ v,e=D (.tuple #[v,O true])∧w'.ownsRow w.heap.size 94 2 v ps.length (pcells ps)
theorem Qpg (b off len cap:Nat)(f:Nat→Nat)(w:World)(hl:len≤100000)(hlc:len≤cap)(hf:∀ j,j < len→f j < 256)(hcell:∀ j,j < len→w.cell? ⟨b,off+j,Z⟩=U (I .u8 (f j:Int))) :
  Calls V 42 #[J (U ⟨b,off,Z⟩) len cap] w fun e w'=>Qm2 w w' (Qch f len 0 []) e∧Below w.heap.size w w':=by
 have HC:=Qaa hcell
 have HF:=Qaa hf
 clear hcell hf
 go_enter Tryz.func42,Tryz.ntmps42
 go_wp2
 go_loopw [0,4] (fun s v wq=>∃ (i:Nat) (acc:List (Nat×Nat)) (a':Option Addr) (c' r:Nat),s=J a' r c'∧r=len - i∧i≤len∧r≤c'∧Hid (i < len→a'=U ⟨b,off+i,Z⟩)∧Hid (wq.ownsRow w.heap.size 94 2 v acc.length (pcells acc))∧Hid (Below w.heap.size w wq)∧Hid (Qch f len 0 []=Qch f len i acc)∧acc.length≤i) (fun s _ _=>sliceLen s)
 case atStart=>exact ⟨0,[],_,cap,len,rfl,rfl,Nat.zero_le _,hlc,fun _=>rfl,Qbm _ _ _ _,M _ _,rfl,E _⟩
 case round =>
  obtain ⟨i,acc,a',c',r,rfl,hr,hi,hrc,HA,HO,HB,HE,hal⟩:=hrel
  by_cases hlt:i < len
  ·have ha:=HA.out hlt
   subst ha
   have hr0:(0:Int) < (r:Int):=by omega
   have hcw:Hid (∀ j,j < len→wr.cell? ⟨b,off+j,Z⟩=U (I .u8 (f j:Int))):=fun j hj=>by
    rw [(Qae.of_below HB.out (fun _=>False)).cell _ (T w _ (HC.out j hj)) (fun h=>h)]
    exact HC.out j hj
   have HRR:=Qaa hr
   have hrl:r≤len:=by omega
   clear hr HA
   cases hk:Qsb f len i with
   | false =>
    have HN:Hid (Qch f len 0 []=Z):=by show Qch f len 0 []=Z; rw [HE.out,Qka hlt hk]
    have HK:=Qaa hk
    clear hk
    go_wp2_with fail
    rw [HRR.out]
    refine (Qub b off len i c' f wr hlt (by rw [← HRR.out]; exact hrc) hl HF.out hcw.out HK.out).mono ?_
    rintro e w1 ⟨rfl,hb⟩
    unfold pfx
    have HB1:Hid (Below w.heap.size w w1):=HB.out.trans (hb.mono HB.out.size)
    clear hb
    go_wp2
    go_ret2
    exact ⟨by rw [HN.out]; rfl,HB1.out.alloc HB1.out.size _⟩
   | true =>
    have HK:=Qaa hk
    clear hk
    go_wp2_with fail
    rw [HRR.out]
    refine (Qwn b off len i c' f wr hlt (by rw [← HRR.out]; exact hrc) hl HF.out hcw.out HK.out).mono ?_
    rintro e w1 ⟨a2,c2,rfl,hc2,ha2,hb⟩
    unfold pfx
    have HB1:Hid (Below w.heap.size w w1):=HB.out.trans (hb.mono HB.out.size)
    have HO1:=Qaa (Qaq HO.out hb)
    have HE1:Hid (Qch f len 0 []=Qch f len (i+1+Qgq (f i)) (acc++[Qf3 f i])):=by show Qch f len 0 []=_; rw [HE.out,Qj3 hlt HK.out]
    have HL2:Hid (i+1+Qgq (f i)≤len):=(of_decide_eq_true HK.out).2
    clear hb HB HO HE HC
    have HC2:=Qaa hc2
    have HA2:=Qaa ha2
    clear hc2 ha2
    generalize hit:Qf3 f i=it at *
    obtain ⟨A,n⟩:=it
    generalize hni:i+1+Qgq (f i)=i2 at *
    have HNI:Hid (i < i2):=by show i < i2; omega
    clear hni hit
    generalize hr2:len - i2=r2 at *
    have HR2:=Qaa hr2
    clear hr2
    obtain ⟨v3,w3,hrun,hown3,hb3⟩:=Qig elemPfx (w:=w1.alloc (N #[I .u32 (A:Int),I Y (n:Int)] 94)) (HO1.out.alloc _) (by simp; have:=HB1.out.size; omega) 1 [I .u32 (A:Int),I Y (n:Int)] rfl (by simp [Value.oneCell']) (by omega) (w1.heap.size+1) (by simp)
    have HR3:=Qaa hrun
    have HO3:Hid (w3.ownsRow w.heap.size 94 2 v3 (acc++[(A,n)]).length (pcells (acc++[(A,n)]))):=by
     show w3.ownsRow _ _ _ _ _ _
     rw [Qj2,List.length_append]
     exact hown3
    have HB3:Hid (Below w.heap.size w w3):=(HB1.out.alloc HB1.out.size _).trans hb3
    clear hrun hown3 hb3 HO1 HB1
    go_wp2_with ((with_reducible refine Qdw _ _ 29 _ (J (U ⟨w1.heap.size+1,0,Z⟩) 1 1) _ ?_ ?_ HR3.out ?_); (· rfl); (· rfl))
    exact ⟨⟨i2,acc++[(A,n)],a2,c2,r2,rfl,HR2.out.symm,HL2.out,HC2.out,HA2,HO3,HB3,HE1,by have:=HNI.out; simp; omega⟩,by have:=HNI.out; have:=HRR.out; have:=HR2.out; have:=HL2.out; simp [sliceLen]; omega⟩
  ·have HN:Hid (Qch f len 0 []=U acc):=by show Qch f len 0 []=U acc; rw [HE.out,Qfm hlt]
   have hr0:r=0:=by omega
   subst hr0
   go_wp2
   go_ret2
   exact ⟨by rw [HN.out]; exact ⟨_,rfl,HO.out⟩,HB.out⟩
theorem Qne (a:Option Addr)(cap:Nat)(f:Nat→Nat)(w:World) :
  Calls V 42 #[J a 0 cap] w fun e w'=>Qm2 w w' (Qch f 0 0 []) e∧Below w.heap.size w w':=by
 have HN:Hid (Qch f 0 0 []=U []):=Qfm (by omega)
 go_enter Tryz.func42,Tryz.ntmps42
 go_wp2
 go_loopw [0,4] (fun s v wq=>s=J a 0 cap∧v=J Z 0 0∧wq=w) (fun s _ _=>sliceLen s)
 case atStart=>exact ⟨rfl,rfl,rfl⟩
 case round =>
  obtain ⟨rfl,rfl,rfl⟩:=hrel
  go_wp2
  go_ret2
  exact ⟨by rw [HN.out]; exact ⟨_,rfl,Qbm _ _ _ _⟩,M _ _⟩
theorem Qpt (a:Option Addr)(len cap:Nat)(f:Nat→Nat)(w:World)(hl:len≤100000)(hlc:len≤cap)(hf:∀ j,j < len→f j < 256)(h:Rw w a len f) :
  Calls V 42 #[J a len cap] w fun e w'=>Qm2 w w' (Qch f len 0 []) e∧Below w.heap.size w w':=by
 by_cases h0:len=0
 ·subst h0; exact Qne a cap f w
 ·obtain ⟨b,off,rfl,hc⟩:=h.2 (by omega)
  exact Qpg b off len cap f w hl hlc hf hc
