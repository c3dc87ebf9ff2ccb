import Derived.Test.YtogbjeaceboemaaGreatDoorPA6
import Derived.Test.YtogbjeaceboemaaGreatDoorPA8
import Derived.Test.YtogbjeaceboemaaGreatDoorPA9
namespace Go.Proofs.YtogbjeaceboemaaGreatDoor
open Go.RowKit
set_option maxRecDepth 100000
def cutP (k:Nat)(bs:List Nat):Option (List Nat×List Nat) :=
 if bs.length < k then none else if bs.length < k+numB (bs.take k) then none else some ((bs.drop k).take (numB (bs.take k)),bs.drop (k+numB (bs.take k)))
def CutIs (w:World)(e:Ending)(r:Option (List Nat×List Nat)):Prop:=match r with
 | none=>e=.returned (.tuple #[.slice none 0 0,.slice none 0 0,.bool false])
 | some (p,q)=>∃ ap cp aq cq,e=.returned (.tuple #[.slice ap p.length cp,.slice aq q.length cq,.bool true])∧p.length≤cp∧q.length≤cq∧BRd w ap p∧BRd w aq q
theorem cutP_short {k:Nat}{bs:List Nat} (h:bs.length < k):cutP k bs=none:=by unfold cutP; rw [if_pos h]
theorem cutP_no {k:Nat}{bs:List Nat} (h:¬ bs.length < k) (h2:bs.length < k+numB (bs.take k)):cutP k bs=none:=by unfold cutP; rw [if_neg h,if_pos h2]
theorem cutP_yes {k:Nat}{bs:List Nat} (h:¬ bs.length < k) (h2:¬ bs.length < k+numB (bs.take k)):cutP k bs=some ((bs.drop k).take (numB (bs.take k)),bs.drop (k+numB (bs.take k))):=by unfold cutP; rw [if_neg h,if_neg h2]
theorem brd_drop {w:World}{g o k:Nat}{bs:List Nat} (h:BRd w (some ⟨g,o,none⟩) bs) (hk:k≤bs.length):BRd w (some ⟨g,o+k,none⟩) (bs.drop k):=by
 have:=brd_from h k (bs.length - k) (by omega)
 rwa [List.take_of_length_le (by rw [List.length_drop]; omega)] at this
theorem brd_sub {w:World}{a:Option Addr}{g o k l c:Nat}{bs:List Nat} (h:BRd w (some ⟨g,o,none⟩) bs) (hk:k+l≤bs.length) (hc:bs.length≤c) (ha:a=if c=k then some ⟨g,o,none⟩ else some ⟨g,o+k,none⟩):BRd w a ((bs.drop k).take l):=by
 by_cases e:c=k
 ·have:(bs.drop k).take l=[]:=by
   rw [List.drop_eq_nil_of_le (by omega),List.take_nil]
  rw [this]
  exact brd_none _ _
 ·rw [ha,if_neg e]
  exact brd_from h k l hk
set_option maxHeartbeats 1600000 in
theorem mcut_any (a:Option Addr)(c k:Nat)(bs:List Nat)(w:World)(hk1:1≤k)(hk2:k≤2)(hl:bs.length≤100000)(hcap:bs.length≤c)(h:BRd w a bs) :
  Calls Tryz.prog 42 #[.slice a bs.length c,.int .i64 (k:Int)] w fun e w'=>CutIs w e (cutP k bs)∧∃ m,w'=w.drewN m:=by
 by_cases h1:bs.length < k
 ·rw [cutP_short h1]
  unfold CutIs
  have h1i:(bs.length:Int) < (k:Int):=by omega
  clear h hcap hl
  generalize bs.length=n at *
  go_enter Tryz.func42,Tryz.ntmps42
  go_wp2_with fail
  exact bodyPost_ret (v:=.tuple #[.slice none 0 0,.slice none 0 0,.bool false]) (by simp [results,Tryz.results42,go_sem]) rfl ⟨rfl,0,rfl⟩
 ·obtain ⟨g,o,rfl,hc⟩:=h.1.2 (by omega)
  have htl:(bs.take k).length=k:=by rw [List.length_take]; omega
  have h3:=brd_take h k
  have hN:=mnumof_any g o k c (bs.take k) w htl (by omega) h3.2 (fun i hi=>by
   obtain ⟨g',o',e,h9⟩:=h3.1.2 (by omega)
   cases e
   exact h9 i (by omega))
  have hm:numB (bs.take k) < 65536:=by
   have h9:=numB_lt (bs.take k) h3.2
   rw [htl] at h9
   rcases (by omega:k=1∨k=2) with rfl | rfl <;> simp at h9 <;> omega
  have h1i:¬ ((bs.length:Int) < (k:Int)):=by omega
  have hki:(k:Int)≤(c:Int):=by omega
  have hk0:(0:Int)≤(k:Int):=Int.natCast_nonneg _
  have HN:=hide hN
  by_cases h2:bs.length < k+numB (bs.take k)
  ·rw [cutP_no h1 h2]
   unfold CutIs
   generalize numB (bs.take k)=m at *
   have h2i:(bs.length:Int) < (k:Int)+(m:Int):=by omega
   clear h hcap hl h3 htl hc hN
   generalize bs.length=n at *
   go_enter Tryz.func42,Tryz.ntmps42
   go_wp2_with fail
   with_reducible refine HN.out.mono ?_
   rintro e w1 ⟨rfl,rfl⟩
   go_wp2_with fail
   exact bodyPost_ret (v:=.tuple #[.slice none 0 0,.slice none 0 0,.bool false]) (by simp [results,Tryz.results42,go_sem]) rfl ⟨rfl,0,rfl⟩
  ·rw [cutP_yes h1 h2]
   unfold CutIs
   generalize numB (bs.take k)=m at *
   have hp:((bs.drop k).take m).length=m:=by rw [List.length_take,List.length_drop]; omega
   have hq:(bs.drop (k+m)).length=bs.length - (k+m):=List.length_drop
   simp only [hp,hq]
   have h2i:¬ ((bs.length:Int) < (k:Int)+(m:Int)):=by omega
   have HP:Hid (∀ a,a=(if c=k then some ⟨g,o,none⟩ else some ⟨g,o+k,none⟩)→BRd w a ((bs.drop k).take m)):=fun a ha=>brd_sub h (by omega) hcap ha
   have HQ:Hid (∀ a,a=(if c=k+m then some ⟨g,o,none⟩ else some ⟨g,o+(k+m),none⟩)→BRd w a (bs.drop (k+m))):=fun a ha=>by
    have:=brd_sub (l:=bs.length - (k+m)) h (by omega) hcap ha
    rwa [List.take_of_length_le (by rw [List.length_drop]; omega)] at this
   have hcm:(k:Int)+(m:Int)≤(c:Int):=by omega
   have HC:=hide hcap
   obtain ⟨e,he⟩:∃ e:Nat,(k:Int)+(m:Int)=(e:Int):=⟨k+m,by omega⟩
   have hee:e=k+m:=by omega
   have HEE:=hide hee
   have hke:k≤e:=by omega
   have hen:e≤bs.length:=by omega
   have hec:e≤c:=by omega
   have hkei:(k:Int)≤(e:Int):=by omega
   have heni:(e:Int)≤(bs.length:Int):=by omega
   have heci:(e:Int)≤(c:Int):=by omega
   clear h h3 htl hc hN hp hq hee hcap h1 h2
   generalize bs.length=n at *
   have hem:e - k=m:=by have:=HEE.out; omega
   by_cases hck:c=k
   ·subst hck
    obtain rfl:e=c:=by omega
    obtain rfl:m=0:=by omega
    go_enter Tryz.func42,Tryz.ntmps42
    go_wp2_with fail
    with_reducible refine HN.out.mono ?_
    rintro e9 w1 ⟨rfl,rfl⟩
    go_wp2_with fail
    go_quiet (fail)
    go_wp2_with fail
    refine bodyPost_ret (v:=.tuple #[.slice (some ⟨g,o,none⟩) 0 0,.slice (some ⟨g,o,none⟩) (n - e) 0,.bool true]) (by simp [results,Tryz.results42,go_sem]) rfl ⟨⟨some ⟨g,o,none⟩,0,some ⟨g,o,none⟩,0,by rw [Nat.add_zero],by omega,by have:=HC.out; omega,HP.out _ (by simp),HQ.out _ (by simp)⟩,_,rfl⟩
   ·by_cases hce:c=e
    ·subst hce
     go_enter Tryz.func42,Tryz.ntmps42
     go_wp2_with fail
     with_reducible refine HN.out.mono ?_
     rintro e9 w1 ⟨rfl,rfl⟩
     go_wp2_with fail
     go_quiet (fail)
     go_wp2_with fail
     refine bodyPost_ret (v:=.tuple #[.slice (some ⟨g,o+k,none⟩) m (c - k),.slice (some ⟨g,o,none⟩) (n - c) 0,.bool true]) (by simp [results,Tryz.results42,go_sem,hem]) rfl ⟨⟨some ⟨g,o+k,none⟩,c - k,some ⟨g,o,none⟩,0,by rw [HEE.out],by have:=HC.out; have:=HEE.out; omega,by have:=HC.out; have:=HEE.out; omega,HP.out _ (by rw [if_neg hck]),HQ.out _ (by rw [← HEE.out,if_pos rfl])⟩,_,rfl⟩
    ·go_enter Tryz.func42,Tryz.ntmps42
     go_wp2_with fail
     with_reducible refine HN.out.mono ?_
     rintro e9 w1 ⟨rfl,rfl⟩
     go_wp2_with fail
     go_quiet (fail)
     go_wp2_with fail
     refine bodyPost_ret (v:=.tuple #[.slice (some ⟨g,o+k,none⟩) m (c - k),.slice (some ⟨g,o+e,none⟩) (n - e) (c - e),.bool true]) (by simp [results,Tryz.results42,go_sem]) rfl ⟨⟨some ⟨g,o+k,none⟩,c - k,some ⟨g,o+e,none⟩,c - e,by rw [HEE.out],by have:=HC.out; have:=HEE.out; omega,by have:=HC.out; have:=HEE.out; omega,HP.out _ (by rw [if_neg hck]),HQ.out _ (by rw [← HEE.out,if_neg hce])⟩,_,rfl⟩
def updC (v:Value)(A:Array Value)(u:Value):Array Value:=#[v]++A++#[u]
def zA7:Array Value:=#[.int .i64 0,.slice none 0 0,.int .u32 0,.int .i64 0,.int .i64 0,.slice none 0 0,.slice none 0 0]
def zU:Array Value:=updC (.slice none 0 0) zA7 (.slice none 0 0)
def UC (C:Array Value):Prop:=C.size=9∧C.all (·.oneCell')=true
theorem UC.upd {v u:Value}{A:Array Value} (hv:v.oneCell'=true) (hu:u.oneCell'=true) (hA:A.size=7) (h2:A.all (·.oneCell')=true):UC (updC v A u):=by
 refine ⟨by simp [updC,hA],?_⟩
 unfold updC
 simp only [Array.all_append,h2]
 simp [hv,hu]
theorem UC.zero:UC zU:=UC.upd rfl rfl rfl (by simp [zA7,Value.oneCell'])
theorem infoU:(Tryz.prog.info? 36).map (·.size)=some 9:=by kernel_rfl
section
variable {P:Program}{a:Act}{w w':World}{K:Act→World→Prop}{Q:Exit→Act→World→Prop}{dst:Option Tmp}{ty:TypeId}{pos:String}{after:Array Edge}{gd:Option (Nat×Bool)}
theorem keptU_store (x y:Operand):Oper.wp P { dst:=dst,op:=.store 36 x y,type:=ty,pos:=pos,after:=after,guard:=gd } a w K Q=Kept P { dst:=dst,op:=.store 36 x y,type:=ty,pos:=pos,after:=after,guard:=gd } a w K Q:=rfl
theorem keptU_load (x:Operand):Oper.wp P { dst:=dst,op:=.load 36 x,type:=ty,pos:=pos,after:=after,guard:=gd } a w K Q=Kept P { dst:=dst,op:=.load 36 x,type:=ty,pos:=pos,after:=after,guard:=gd } a w K Q:=rfl
theorem keptU_alloc:Oper.wp P { dst:=dst,op:=.alloc 36,type:=ty,pos:=pos,after:=after,guard:=gd } a w K Q=Kept P { dst:=dst,op:=.alloc 36,type:=ty,pos:=pos,after:=after,guard:=gd } a w K Q:=rfl
theorem keptU_build (xs:Array (Nat×Operand)):Oper.wp P { dst:=dst,op:=.build 36 xs,type:=ty,pos:=pos,after:=after,guard:=gd } a w K Q=Kept P { dst:=dst,op:=.build 36 xs,type:=ty,pos:=pos,after:=after,guard:=gd } a w K Q:=rfl
theorem keptU_store_intro (x y:Operand)(p v:Value)(hx:a.eval x=p)(hy:a.eval y=v)(hr:(Instr.storeAt 36 p v).run P w=.ok () w')(h:K (a.put dst undef) w'):Kept P { dst:=dst,op:=.store 36 x y,type:=ty,pos:=pos,after:=after,guard:=gd } a w K Q:=by
 unfold Kept Oper.wp execOp
 simp only [hx,hy,Sem.run_bind,hr,Result.andThen_ok,Sem.run_pure]
 exact h
theorem keptU_load_intro (x:Operand)(p v:Value)(hx:a.eval x=p)(hr:(Instr.loadAt 36 p).run P w=.ok v w)(h:K (a.put dst v) w):Kept P { dst:=dst,op:=.load 36 x,type:=ty,pos:=pos,after:=after,guard:=gd } a w K Q:=by
 unfold Kept Oper.wp execOp
 simp only [hx,Sem.run_bind,hr,Result.andThen_ok,Sem.run_pure]
 exact h
theorem keptU_alloc_intro (v:Value)(hr:(Instr.alloc 36 true (.tuple #[])).run P w=.ok v w')(h:K (a.put dst v) w'):Kept P { dst:=dst,op:=.alloc 36,type:=ty,pos:=pos,after:=after,guard:=gd } a w K Q:=by
 unfold Kept Oper.wp execOp
 simp only [Sem.run_bind,hr,Result.andThen_ok,Sem.run_pure]
 exact h
theorem keptU_build0_intro (v:Value)(hr:(Instr.build 36 #[]).run P w=.ok v w)(h:K (a.put dst v) w):Kept P { dst:=dst,op:=.build 36 #[],type:=ty,pos:=pos,after:=after,guard:=gd } a w K Q:=by
 unfold Kept Oper.wp execOp
 have e:((#[]:Array (Nat×Operand)).map fun (i,x)=>(i,a.eval x))=#[]:=by simp
 simp only [e,Sem.run_bind,hr,Result.andThen_ok,Sem.run_pure]
 exact h
theorem keptU_build2_intro (i j:Nat)(x y:Operand)(p q v:Value)(hx:a.eval x=p)(hy:a.eval y=q)(hr:(Instr.build 36 #[(i,p),(j,q)]).run P w=.ok v w)(h:K (a.put dst v) w):Kept P { dst:=dst,op:=.build 36 #[(i,x),(j,y)],type:=ty,pos:=pos,after:=after,guard:=gd } a w K Q:=by
 unfold Kept Oper.wp execOp
 have e:(#[(i,x),(j,y)].map fun (i,x)=>(i,a.eval x))=#[(i,p),(j,q)]:=by simp [hx,hy]
 simp only [e,Sem.run_bind,hr,Result.andThen_ok,Sem.run_pure]
 exact h
end
theorem run_allocU (w:World):(Instr.alloc 36 true (.tuple #[])).run Tryz.prog w=.ok (.pointer (some ⟨w.heap.size,0,none⟩)) (w.alloc (.cells zU 36)):=by kernel_rfl
theorem run_build0U (w:World):(Instr.build 36 #[]).run Tryz.prog w=.ok (.agg zU) w:=by kernel_rfl
theorem run_build2U (a1 a2:Option Addr)(n1 n2 c1 c2:Nat)(w:World):(Instr.build 36 #[(0,.slice a1 n1 c1),(2,.slice a2 n2 c2)]).run Tryz.prog w=.ok (.agg (updC (.slice a1 n1 c1) zA7 (.slice a2 n2 c2))) w:=by kernel_rfl
theorem run_storeU {w:World}{g:Nat}{C C0:Array Value}{t:TypeId} (h:w.heap[g]?=some (.cells C0 t (0,0))) (h0:C0.size=9) (hC:UC C):(Instr.storeAt 36 (.pointer (some ⟨g,0,none⟩)) (.agg C)).run Tryz.prog w=.ok () (w.setCells g 0 C.toList) :=
 run_storeAt_mid (P:=Tryz.prog) w g 0 36 C (there_at h _ (by rw [hC.1,h0]; omega)) (by rw [infoU,hC.1]) hC.2
theorem run_loadU {w:World}{g:Nat}{C:Array Value} (h:w.rangeAt g 0 C.toList) (hC:UC C):(Instr.loadAt 36 (.pointer (some ⟨g,0,none⟩))).run Tryz.prog w=.ok (.agg C) w:=by
 have:=run_loadAt_mid (P:=Tryz.prog) w g 0 36 C.toList _ h Tryz.underlying36 rfl (by rw [infoU]; simp [hC.1])
 simpa using this
theorem nt_ofU {W:World}{X:Nat} (h:W.heap[X]?=some (.cells #[.int .i64 0,.int .i64 0,.slice none 0 0] 38 (0,0))):NtBox W X:=by
 have hr:=range_of h
 have hf:∀ j,W.frozen? ⟨X,j,none⟩=false:=fun j=>by simp [World.frozen?,h]
 exact ⟨(Array.getElem?_eq_some_iff.1 h).1,by have:=hr 0 _ rfl; simpa using this,by have:=hr 1 _ rfl; simpa using this,by have:=hr 2 _ rfl; simpa using this,hf 0,hf 1,hf 2⟩
structure UW (w W:World):Prop where
 bU:W.heap[w.heap.size]?=some (.cells zU 36 (0,0))
 bN:W.heap[w.heap.size+1]?=some (.cells #[.int .i64 0,.int .i64 0,.slice none 0 0] 38 (0,0))
 bel:Below w.heap.size w W
theorem UW.later {w W W':World}(h:UW w W)(hb:Below W.heap.size W W'):UW w W' :=
 ⟨by rw [hb.block _ (Array.getElem?_eq_some_iff.1 h.bU).1]; exact h.bU,by rw [hb.block _ (Array.getElem?_eq_some_iff.1 h.bN).1]; exact h.bN,h.bel.trans (hb.mono h.bel.size)⟩
theorem UW.made (w:World):UW w ((w.alloc (.cells zU 36)).alloc (.cells #[.int .i64 0,.int .i64 0,.slice none 0 0] 38)):=by
 refine ⟨?_,?_,((Below.refl _ _).alloc (Nat.le_refl _) _).alloc (by simp) _⟩
 ·unfold World.alloc
  simp only
  rw [Array.getElem?_push_lt (by simp),Array.getElem_push_eq]
 ·unfold World.alloc
  simp only
  have:w.heap.size+1=(w.heap.push (.cells zU 36)).size:=by simp
  rw [this,Array.getElem?_push_size]
structure UEnd (w W5:World) (k s:Nat) (d:List Nat) (a9:Option Addr) (n c9:Nat):Prop where
 rU:(W5.setCells (w.heap.size+1) 0 [.int .i64 (k:Int),.int .i64 (s:Int),.slice a9 n c9]).rangeAt w.heap.size 0 zU.toList
 rN:(W5.setCells (w.heap.size+1) 0 [.int .i64 (k:Int),.int .i64 (s:Int),.slice a9 n c9]).rangeAt (w.heap.size+1) 0 [.int .i64 (k:Int),.int .i64 (s:Int),.slice a9 n c9]
 own:(W5.setCells (w.heap.size+1) 0 [.int .i64 (k:Int),.int .i64 (s:Int),.slice a9 n c9]).ownsRow w.heap.size 5 1 (.slice a9 n c9) n (bcells d)
 bel:Below w.heap.size w (W5.setCells (w.heap.size+1) 0 [.int .i64 (k:Int),.int .i64 (s:Int),.slice a9 n c9])
theorem upd_end (w W:World)(hW:UW w W)(k s:Nat)(a:Option Addr)(cap n:Nat)(d:List Nat)(hn:d.length=n)(hl:n≤50000)(h:BRd W a d) :
  Calls Tryz.prog 24 #[.int .i64 (k:Int),.int .i64 (s:Int),.slice a n cap] W fun e w3=>∃ a9 c9 W5,e=.returned (.agg #[.int .i64 (k:Int),.int .i64 (s:Int),.slice a9 n c9])∧Hid ((Instr.storeAt 36 (.pointer (some ⟨w.heap.size,0,none⟩)) (.agg zU)).run Tryz.prog w3=.ok () W5)∧Hid (NtBox W5 (w.heap.size+1))∧Hid (UEnd w W5 k s d a9 n c9):=by
 subst hn
 refine (noteof_any k s a cap d W hl h).mono ?_
 rintro e w3 ⟨u,rfl,⟨a9,c9,rfl,ho⟩,hb⟩
 have h3:=hW.later hb
 have h5:(w3.setCells w.heap.size 0 zU.toList).heap[w.heap.size]?=some (.cells zU 36 (0,0)):=bx_put h3.bU rfl
 have h6:(w3.setCells w.heap.size 0 zU.toList).heap[w.heap.size+1]?=some (.cells #[.int .i64 0,.int .i64 0,.slice none 0 0] 38 (0,0)):=by rw [heap_sets (by omega)]; exact h3.bN
 have hk:Keeps (fun x=>x=w.heap.size∨x=w.heap.size+1) w3 ((w3.setCells w.heap.size 0 zU.toList).setCells (w.heap.size+1) 0 [.int .i64 (k:Int),.int .i64 (s:Int),.slice a9 d.length c9]):=((Keeps.refl _ _).setCells _ 0 _ (.inl (.inl rfl))).setCells _ 0 _ (.inl (.inr rfl))
 have hsz:w.heap.size+1 < W.heap.size:=(Array.getElem?_eq_some_iff.1 hW.bN).1
 refine ⟨a9,c9,_,rfl,run_storeU h3.bU rfl UC.zero,nt_ofU h6,⟨bx_apart (range_of h5) (by omega),?_,?_,?_⟩⟩
 ·exact bx_set (C0:=#[.int .i64 0,.int .i64 0,.slice none 0 0]) (C:=#[.int .i64 (k:Int),.int .i64 (s:Int),.slice a9 d.length c9]) h6 (by simp)
 ·exact own_low (own_keep ho hk (fun x hx=>by omega)) (by omega)
 ·exact h3.bel.trans (hk.below _ h3.bel.size (fun x e=>by omega))
def UpBad (w w':World)(e:Ending)(k s:Nat)(d:List Nat):Prop:=∃ u,e=.returned (.tuple #[.agg zU,u])∧NoteIs w.heap.size w' u k s d
def pfxB (bs:List Nat):Option (List (Nat×Nat)):=decRun (fun j=>bs.getD j 0) bs.length 0 []
theorem pdecB_any (a:Option Addr)(cap:Nat)(bs:List Nat)(w:World)(hl:bs.length≤100000)(hc:bs.length≤cap)(h:BRd w a bs) :
  Calls Tryz.prog 45 #[.slice a bs.length cap] w fun e w'=>DecRes w w' (pfxB bs) e∧Below w.heap.size w w' :=
 fdecode_any a bs.length cap (fun j=>bs.getD j 0) w hl hc (fun j hj=>by
  rw [List.getD_eq_getElem?_getD,List.getElem?_eq_getElem hj]
  exact h.2 _ (List.getElem_mem hj)) h.1
section
attribute [local go_sem ↓] keptU_store keptU_alloc keptU_build keptU_load
set_option maxHeartbeats 4000000 in
theorem readup_cut1 (a:Option Addr)(n c:Nat)(bs:List Nat)(w:World)(hn:bs.length=n)(hl:n≤5000)(hcap:n≤c)(h:BRd w a bs)(h1:cutP 2 bs=none) :
  Calls Tryz.prog 26 #[.slice a n c] w fun e w'=>UpBad w w' e 3 1 []∧Below w.heap.size w w':=by
 have HW:Hid (UW w ((w.alloc (.cells zU 36)).alloc (.cells #[.int .i64 0,.int .i64 0,.slice none 0 0] 38))):=UW.made w
 have hc1:=mcut_any a c 2 bs ((w.alloc (.cells zU 36)).alloc (.cells #[.int .i64 0,.int .i64 0,.slice none 0 0] 38)) (by omega) (by omega) (by omega) (by omega) (h.below HW.out.bel)
 rw [h1,hn] at hc1
 have HC1:=hide hc1
 have HC2:Hid (∀ m,Calls Tryz.prog 42 #[.slice none 0 0,.int .i64 2] (((w.alloc (.cells zU 36)).alloc (.cells #[.int .i64 0,.int .i64 0,.slice none 0 0] 38)).drewN m) fun e w'=>e=.returned (.tuple #[.slice none 0 0,.slice none 0 0,.bool false])∧∃ m2,w'=(((w.alloc (.cells zU 36)).alloc (.cells #[.int .i64 0,.int .i64 0,.slice none 0 0] 38)).drewN m).drewN m2):=fun m=>mcut_any none 0 2 [] (((w.alloc (.cells zU 36)).alloc (.cells #[.int .i64 0,.int .i64 0,.slice none 0 0] 38)).drewN m) (by omega) (by omega) (by simp) (by simp) (brd_none _ _)
 have KE:Hid (∀ X,UW w X→Calls Tryz.prog 24 #[.int .i64 3,.int .i64 1,.slice none 0 0] X fun e w3=>∃ a9 c9 W5,e=.returned (.agg #[.int .i64 3,.int .i64 1,.slice a9 0 c9])∧Hid ((Instr.storeAt 36 (.pointer (some ⟨w.heap.size,0,none⟩)) (.agg zU)).run Tryz.prog w3=.ok () W5)∧Hid (NtBox W5 (w.heap.size+1))∧Hid (UEnd w W5 3 1 [] a9 0 c9)):=fun X hX=>upd_end w X hX 3 1 none 0 0 [] rfl (by decide) (brd_none _ _)
 unfold CutIs at HC1
 unfold UpBad NoteIs
 simp only at HC1
 clear h hc1 h1 hn hl hcap
 go_enter Tryz.func26,Tryz.ntmps26
 go_wp2_with (first | (refine keptU_alloc_intro _ (run_allocU w) ?_))
 refine HC1.out.mono ?_
 rintro e w1 ⟨rfl,m,rfl⟩
 go_wp2_with fail
 with_reducible refine (HC2.out m).mono ?_
 rintro e w2 ⟨rfl,m2,hw2⟩
 have HWX:Hid (UW w w2):=by rw [hw2]; exact HW.out.later (W':=(((w.alloc (.cells zU 36)).alloc (.cells #[.int .i64 0,.int .i64 0,.slice none 0 0] 38)).drewN m).drewN m2) ⟨rfl,rfl,rfl,Nat.le_refl _,fun _ _=>rfl⟩
 clear hw2
 go_wp2_with (first | (refine keptU_build0_intro _ (run_build0U _) ?_))
 refine (KE.out _ HWX.out).mono ?_
 rintro e w3 ⟨a9,c9,W5,rfl,HST,HX,HF⟩
 obtain ⟨_,r0,r1,r2,f0,f1,f2⟩:=HX.out
 go_wp2_with (refine keptU_store_intro _ _ (.pointer (some ⟨w.heap.size,0,none⟩)) (.agg zU) (by rfl) (by rfl) HST.out ?_)
 refine bodyPost_ret (v:=.tuple #[.agg zU,.agg #[.int .i64 3,.int .i64 1,.slice a9 0 c9]]) (res_cells2 Tryz.results26 _ _ w.heap.size (w.heap.size+1) zU #[.int .i64 3,.int .i64 1,.slice a9 0 c9] rfl rfl HF.out.rU HF.out.rN Tryz.underlying36 rfl infoU Tryz.underlying38 rfl infoN) rfl ⟨?_,HF.out.bel⟩
 exact ⟨_,rfl,a9,c9,rfl,HF.out.own⟩
set_option maxHeartbeats 4000000 in
theorem readup_cut2 (a:Option Addr)(n c:Nat)(bs p q:List Nat)(w:World)(hn:bs.length=n)(hl:n≤5000)(hcap:n≤c)(h:BRd w a bs)(h1:cutP 2 bs=some (p,q))(hq5:q.length≤5000)(h2:cutP 2 q=none) :
  Calls Tryz.prog 26 #[.slice a n c] w fun e w'=>UpBad w w' e 3 1 []∧Below w.heap.size w w':=by
 have HW:Hid (UW w ((w.alloc (.cells zU 36)).alloc (.cells #[.int .i64 0,.int .i64 0,.slice none 0 0] 38))):=UW.made w
 have hc1:=mcut_any a c 2 bs ((w.alloc (.cells zU 36)).alloc (.cells #[.int .i64 0,.int .i64 0,.slice none 0 0] 38)) (by omega) (by omega) (by omega) (by omega) (h.below HW.out.bel)
 rw [h1,hn] at hc1
 have HC1:=hide hc1
 have HC2:Hid (∀ m aq cq,q.length≤cq→BRd ((w.alloc (.cells zU 36)).alloc (.cells #[.int .i64 0,.int .i64 0,.slice none 0 0] 38)) aq q→Calls Tryz.prog 42 #[.slice aq q.length cq,.int .i64 2] (((w.alloc (.cells zU 36)).alloc (.cells #[.int .i64 0,.int .i64 0,.slice none 0 0] 38)).drewN m) fun e w'=>e=.returned (.tuple #[.slice none 0 0,.slice none 0 0,.bool false])∧∃ m2,w'=(((w.alloc (.cells zU 36)).alloc (.cells #[.int .i64 0,.int .i64 0,.slice none 0 0] 38)).drewN m).drewN m2):=fun m aq cq h5 h6=>by
  have:=mcut_any aq cq 2 q (((w.alloc (.cells zU 36)).alloc (.cells #[.int .i64 0,.int .i64 0,.slice none 0 0] 38)).drewN m) (by omega) (by omega) (by omega) h5 (h6.below ⟨rfl,rfl,rfl,Nat.le_refl _,fun _ _=>rfl⟩)
  rw [h2] at this
  exact this
 have KE:Hid (∀ X,UW w X→Calls Tryz.prog 24 #[.int .i64 3,.int .i64 1,.slice none 0 0] X fun e w3=>∃ a9 c9 W5,e=.returned (.agg #[.int .i64 3,.int .i64 1,.slice a9 0 c9])∧Hid ((Instr.storeAt 36 (.pointer (some ⟨w.heap.size,0,none⟩)) (.agg zU)).run Tryz.prog w3=.ok () W5)∧Hid (NtBox W5 (w.heap.size+1))∧Hid (UEnd w W5 3 1 [] a9 0 c9)):=fun X hX=>upd_end w X hX 3 1 none 0 0 [] rfl (by decide) (brd_none _ _)
 unfold CutIs at HC1
 unfold UpBad NoteIs
 simp only at HC1
 clear h hc1 h1 h2 hn hl hcap hq5
 generalize q.length=nq at *
 generalize p.length=np at *
 go_enter Tryz.func26,Tryz.ntmps26
 go_wp2_with (first | (refine keptU_alloc_intro _ (run_allocU w) ?_))
 refine HC1.out.mono ?_
 rintro e w1 ⟨⟨ap,cp,aq,cq,rfl,hp1,hq1,hp2,hq2⟩,m,rfl⟩
 have HQ2:=hide hq2
 clear hp2 hq2 hp1
 go_wp2_with fail
 with_reducible refine (HC2.out m aq cq hq1 HQ2.out).mono ?_
 rintro e w2 ⟨rfl,m2,hw2⟩
 have HWX:Hid (UW w w2):=by rw [hw2]; exact HW.out.later (W':=(((w.alloc (.cells zU 36)).alloc (.cells #[.int .i64 0,.int .i64 0,.slice none 0 0] 38)).drewN m).drewN m2) ⟨rfl,rfl,rfl,Nat.le_refl _,fun _ _=>rfl⟩
 clear hw2
 go_wp2_with (first | (refine keptU_build0_intro _ (run_build0U _) ?_))
 refine (KE.out _ HWX.out).mono ?_
 rintro e w3 ⟨a9,c9,W5,rfl,HST,HX,HF⟩
 obtain ⟨_,r0,r1,r2,f0,f1,f2⟩:=HX.out
 go_wp2_with (refine keptU_store_intro _ _ (.pointer (some ⟨w.heap.size,0,none⟩)) (.agg zU) (by rfl) (by rfl) HST.out ?_)
 refine bodyPost_ret (v:=.tuple #[.agg zU,.agg #[.int .i64 3,.int .i64 1,.slice a9 0 c9]]) (res_cells2 Tryz.results26 _ _ w.heap.size (w.heap.size+1) zU #[.int .i64 3,.int .i64 1,.slice a9 0 c9] rfl rfl HF.out.rU HF.out.rN Tryz.underlying36 rfl infoU Tryz.underlying38 rfl infoN) rfl ⟨?_,HF.out.bel⟩
 exact ⟨_,rfl,a9,c9,rfl,HF.out.own⟩
end
theorem cutP_len {k:Nat}{bs p q:List Nat} (h:cutP k bs=some (p,q)):p.length≤bs.length∧q.length≤bs.length:=by
 unfold cutP at h
 split at h
 ·cases h
 ·split at h
  ·cases h
  ·simp only [Option.some.injEq,Prod.mk.injEq] at h
   obtain ⟨rfl,rfl⟩:=h
   exact ⟨by rw [List.length_take,List.length_drop]; omega,by rw [List.length_drop]; omega⟩
theorem pdecB_ok (a:Option Addr)(cap:Nat)(bs:List Nat)(w:World)(hl:bs.length≤100000)(hc:bs.length≤cap)(h:BRd w a bs) :
  Calls Tryz.prog 45 #[.slice a bs.length cap] w fun e w'=>∃ v,e=.returned (.tuple #[v,.bool (pfxB bs).isSome])∧Below w.heap.size w w':=by
 refine (pdecB_any a cap bs w hl hc h).mono ?_
 rintro e w' ⟨hd,hb⟩
 cases hr:pfxB bs with
 | none=>rw [hr] at hd; exact ⟨_,hd,hb⟩
 | some ps=>rw [hr] at hd; obtain ⟨v,e1,_⟩:=hd; exact ⟨v,e1,hb⟩
section
attribute [local go_sem ↓] keptU_store keptU_alloc keptU_build keptU_load
set_option maxHeartbeats 4000000 in
theorem readup_pfx (a:Option Addr)(n c:Nat)(bs p q at_ nl:List Nat)(w:World)(hn:bs.length=n)(hl:n≤5000)(hcap:n≤c)(h:BRd w a bs)(h1:cutP 2 bs=some (p,q))(h2:cutP 2 q=some (at_,nl))(h3:((pfxB p).isSome && (pfxB nl).isSome)=false) :
  Calls Tryz.prog 26 #[.slice a n c] w fun e w'=>UpBad w w' e 3 10 []∧Below w.heap.size w w':=by
 have HW:Hid (UW w ((w.alloc (.cells zU 36)).alloc (.cells #[.int .i64 0,.int .i64 0,.slice none 0 0] 38))):=UW.made w
 obtain ⟨lp,lq⟩:=cutP_len h1
 obtain ⟨la,ln⟩:=cutP_len h2
 have hc1:=mcut_any a c 2 bs ((w.alloc (.cells zU 36)).alloc (.cells #[.int .i64 0,.int .i64 0,.slice none 0 0] 38)) (by omega) (by omega) (by omega) (by omega) (h.below HW.out.bel)
 rw [h1,hn] at hc1
 have HC1:=hide hc1
 have HC2:Hid (∀ m aq cq,q.length≤cq→BRd ((w.alloc (.cells zU 36)).alloc (.cells #[.int .i64 0,.int .i64 0,.slice none 0 0] 38)) aq q→Calls Tryz.prog 42 #[.slice aq q.length cq,.int .i64 2] (((w.alloc (.cells zU 36)).alloc (.cells #[.int .i64 0,.int .i64 0,.slice none 0 0] 38)).drewN m) fun e w'=>∃ ap2 cp2 aq2 cq2,e=.returned (.tuple #[.slice ap2 at_.length cp2,.slice aq2 nl.length cq2,.bool true])∧at_.length≤cp2∧nl.length≤cq2∧Hid (BRd w' ap2 at_)∧Hid (BRd w' aq2 nl)∧Hid (Below ((w.alloc (.cells zU 36)).alloc (.cells #[.int .i64 0,.int .i64 0,.slice none 0 0] 38)).heap.size ((w.alloc (.cells zU 36)).alloc (.cells #[.int .i64 0,.int .i64 0,.slice none 0 0] 38)) w')):=fun m aq cq h5 h6=>by
  have:=mcut_any aq cq 2 q (((w.alloc (.cells zU 36)).alloc (.cells #[.int .i64 0,.int .i64 0,.slice none 0 0] 38)).drewN m) (by omega) (by omega) (by omega) h5 (h6.below ⟨rfl,rfl,rfl,Nat.le_refl _,fun _ _=>rfl⟩)
  rw [h2] at this
  refine this.mono ?_
  rintro e w' ⟨⟨ap2,cp2,aq2,cq2,e1,e2,e3,e4,e5⟩,m2,rfl⟩
  have hb:Below (((w.alloc (.cells zU 36)).alloc (.cells #[.int .i64 0,.int .i64 0,.slice none 0 0] 38)).drewN m).heap.size (((w.alloc (.cells zU 36)).alloc (.cells #[.int .i64 0,.int .i64 0,.slice none 0 0] 38)).drewN m) ((((w.alloc (.cells zU 36)).alloc (.cells #[.int .i64 0,.int .i64 0,.slice none 0 0] 38)).drewN m).drewN m2):=⟨rfl,rfl,rfl,Nat.le_refl _,fun _ _=>rfl⟩
  exact ⟨ap2,cp2,aq2,cq2,e1,e2,e3,e4.below hb,e5.below hb,⟨rfl,rfl,rfl,Nat.le_refl _,fun _ _=>rfl⟩⟩
 have KP1:Hid (∀ X ap cp,p.length≤cp→BRd X ap p→Calls Tryz.prog 45 #[.slice ap p.length cp] X fun e w'=>∃ v,e=.returned (.tuple #[v,.bool (pfxB p).isSome])∧Below X.heap.size X w'):=fun X ap cp h5 h6=>pdecB_ok ap cp p X (by omega) h5 h6
 have KP2:Hid (∀ X ap cp,nl.length≤cp→BRd X ap nl→Calls Tryz.prog 45 #[.slice ap nl.length cp] X fun e w'=>∃ v,e=.returned (.tuple #[v,.bool (pfxB nl).isSome])∧Below X.heap.size X w'):=fun X ap cp h5 h6=>pdecB_ok ap cp nl X (by omega) h5 h6
 have KE:Hid (∀ X,UW w X→Calls Tryz.prog 24 #[.int .i64 3,.int .i64 10,.slice none 0 0] X fun e w3=>∃ a9 c9 W5,e=.returned (.agg #[.int .i64 3,.int .i64 10,.slice a9 0 c9])∧Hid ((Instr.storeAt 36 (.pointer (some ⟨w.heap.size,0,none⟩)) (.agg zU)).run Tryz.prog w3=.ok () W5)∧Hid (NtBox W5 (w.heap.size+1))∧Hid (UEnd w W5 3 10 [] a9 0 c9)):=fun X hX=>upd_end w X hX 3 10 none 0 0 [] rfl (by decide) (brd_none _ _)
 unfold CutIs at HC1
 unfold UpBad NoteIs
 simp only at HC1
 clear h hc1 h1 h2 hn hl hcap lp lq la ln
 generalize (pfxB p).isSome=b1 at *
 generalize (pfxB nl).isSome=b2 at *
 generalize q.length=nq at *
 generalize p.length=np at *
 generalize at_.length=na at *
 generalize nl.length=nn at *
 go_enter Tryz.func26,Tryz.ntmps26
 go_wp2_with (first | (refine keptU_alloc_intro _ (run_allocU w) ?_))
 refine HC1.out.mono ?_
 rintro e w1 ⟨⟨ap,cp,aq,cq,rfl,hp1,hq1,hp2,hq2⟩,m,rfl⟩
 have HP2:=hide hp2
 have HQ2:=hide hq2
 clear hp2 hq2
 go_wp2_with fail
 with_reducible refine (HC2.out m aq cq hq1 HQ2.out).mono ?_
 rintro e w2 ⟨ap2,cp2,aq2,cq2,rfl,hap,hnl,HA,HN,HB2⟩
 have HWX:=hide (HW.out.later HB2.out)
 go_wp2_with fail
 with_reducible refine (KP1.out w2 ap cp hp1 (HP2.out.below HB2.out)).mono ?_
 rintro e w3 ⟨v,rfl,hb3⟩
 have HW3:=hide (HWX.out.later hb3)
 have HN3:=hide (HN.out.below hb3)
 clear hb3
 go_wp2_with fail
 with_reducible refine (KP2.out w3 aq2 cq2 hnl HN3.out).mono ?_
 rintro e w4 ⟨v2,rfl,hb4⟩
 have HW4:=hide (HW3.out.later hb4)
 clear hb4
 cases b1 with
 | false =>
  go_wp2_with (first | (refine keptU_build0_intro _ (run_build0U _) ?_))
  refine (KE.out _ HW4.out).mono ?_
  rintro e w3 ⟨a9,c9,W5,rfl,HST,HX,HF⟩
  obtain ⟨_,r0,r1,r2,f0,f1,f2⟩:=HX.out
  go_wp2_with (refine keptU_store_intro _ _ (.pointer (some ⟨w.heap.size,0,none⟩)) (.agg zU) (by rfl) (by rfl) HST.out ?_)
  refine bodyPost_ret (v:=.tuple #[.agg zU,.agg #[.int .i64 3,.int .i64 10,.slice a9 0 c9]]) (res_cells2 Tryz.results26 _ _ w.heap.size (w.heap.size+1) zU #[.int .i64 3,.int .i64 10,.slice a9 0 c9] rfl rfl HF.out.rU HF.out.rN Tryz.underlying36 rfl infoU Tryz.underlying38 rfl infoN) rfl ⟨?_,HF.out.bel⟩
  exact ⟨_,rfl,a9,c9,rfl,HF.out.own⟩
 | true =>
  have hb2:b2=false:=by simpa using h3
  subst hb2
  go_wp2_with (first | (refine keptU_build0_intro _ (run_build0U _) ?_))
  refine (KE.out _ HW4.out).mono ?_
  rintro e w3 ⟨a9,c9,W5,rfl,HST,HX,HF⟩
  obtain ⟨_,r0,r1,r2,f0,f1,f2⟩:=HX.out
  go_wp2_with (refine keptU_store_intro _ _ (.pointer (some ⟨w.heap.size,0,none⟩)) (.agg zU) (by rfl) (by rfl) HST.out ?_)
  refine bodyPost_ret (v:=.tuple #[.agg zU,.agg #[.int .i64 3,.int .i64 10,.slice a9 0 c9]]) (res_cells2 Tryz.results26 _ _ w.heap.size (w.heap.size+1) zU #[.int .i64 3,.int .i64 10,.slice a9 0 c9] rfl rfl HF.out.rU HF.out.rN Tryz.underlying36 rfl infoU Tryz.underlying38 rfl infoN) rfl ⟨?_,HF.out.bel⟩
  exact ⟨_,rfl,a9,c9,rfl,HF.out.own⟩
end
end Go.Proofs.YtogbjeaceboemaaGreatDoor
