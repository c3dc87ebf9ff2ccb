import Derived.Test.YtogbjeaceboemaaGreatDoorPA20
import Derived.Deep.RegionWith
namespace Go.Proofs.YtogbjeaceboemaaGreatDoor
open Go.RowKit
set_option maxRecDepth 100000
theorem and128 (x:Nat)(h:x < 256):(bits .and .i64 (x:Int) 128 != 0)=decide (128≤x):=by
  have e:bits .and .i64 (x:Int) 128=((x &&& 128:Nat):Int):=and64n x 128 h (by decide)
  rw [e]
  have key:∀ y:Fin 256,((((y:Nat) &&& 128:Nat):Int) != 0)=decide (128≤(y:Nat)):=by decide +kernel
  exact key ⟨x,h⟩
theorem and64z (x:Nat)(h:x < 256):(bits .and .i64 (x:Int) 64 == 0)=decide (x / 64 % 2=0):=by
  have e:bits .and .i64 (x:Int) 64=((x &&& 64:Nat):Int):=and64n x 64 h (by decide)
  rw [e]
  have key:∀ y:Fin 256,((((y:Nat) &&& 64:Nat):Int) == 0)=decide ((y:Nat) / 64 % 2=0):=by decide +kernel
  exact key ⟨x,h⟩
set_option maxHeartbeats 800000 in
theorem unk_no2 (fl ty:Nat)(a1:Option Addr)(n1 c1:Nat)(a2:Option Addr)(c2:Nat)(all:List Nat)(X:Nat)(w:World)(hf:fl < 128)(hl:all.length≤100000)(h:BRd w a2 all) :
    Calls Tryz.prog 96 #[partV (fl:Int) (ty:Int) a1 n1 c1 a2 all.length c2,.pointer (some ⟨X,0,none⟩)] w fun e w'=>Throws w w' 2 all e:=by
  have hb:∀ o,Below w.heap.size w (w.alloc o):=fun o=>(Below.refl _ _).alloc (Nat.le_refl _) _
  have K:Hid (∀ o,Calls Tryz.prog 97 #[partV (fl:Int) (ty:Int) a1 n1 c1 a2 all.length c2,.bool false,.int .i64 2] (w.alloc o) fun e w'=>Throws w w' 2 all e):=fun o=>(refuse_no _ _ 2 a1 n1 c1 a2 c2 all (w.alloc o) hl (h.below (hb o))).mono fun e w' h9=>h9.from (hb o)
  have ha:(bits .and .i64 (fl:Int) 128 != 0)=false:=by rw [and128 fl (by omega)]; exact decide_eq_false (by omega)
  clear h hb
  unfold partV at K ⊢
  unfold Throws at K ⊢
  unfold thrown at K ⊢
  generalize all.length=n2 at *
  go_enter Tryz.func96,Tryz.ntmps96
  go_wp2_with fail
  refine (K.out _).mono ?_
  rintro e w1 ⟨a9,c9,rfl,ho,hb⟩
  go_wp2
  exact ⟨rfl,a9,c9,rfl,ho,hb⟩
theorem refuse_go (fl ty s:Int)(a1:Option Addr)(n1 c1:Nat)(a2:Option Addr)(n2 c2:Nat)(w0 w:World)(hb:Below w0.heap.size w0 w) :
    Calls Tryz.prog 97 #[.agg #[.int .i64 fl,.int .i64 ty,.slice a1 n1 c1,.slice a2 n2 c2],.bool true,.int .i64 s] w fun e w'=>e=.returned (.tuple #[])∧Below w.heap.size w w'∧Below w0.heap.size w0 w' :=
  (refuse_yes fl ty s a1 n1 c1 a2 n2 c2 w).mono fun _ _ ⟨h1,h2⟩=>⟨h1,h2,hb.trans (h2.mono hb.size)⟩
set_option maxHeartbeats 800000 in
theorem unk_skip (fl ty:Nat)(a1:Option Addr)(n1 c1:Nat)(a2:Option Addr)(n2 c2:Nat)(X:Nat)(w:World)(hf:128≤fl)(hf2:fl < 256)(hz:fl / 64 % 2=0) :
    Calls Tryz.prog 96 #[partV (fl:Int) (ty:Int) a1 n1 c1 a2 n2 c2,.pointer (some ⟨X,0,none⟩)] w fun e w'=>e=.returned (.tuple #[])∧Below w.heap.size w w':=by
  have ha:(bits .and .i64 (fl:Int) 128 != 0)=true:=by rw [and128 fl hf2]; exact decide_eq_true hf
  have hz2:(bits .and .i64 (fl:Int) 64 == 0)=true:=by rw [and64z fl hf2]; exact decide_eq_true hz
  unfold partV
  go_enter Tryz.func96,Tryz.ntmps96
  go_wp2_with fail
  refine (refuse_go _ _ _ _ _ _ _ _ _ w _ ((Below.refl _ _).alloc (Nat.le_refl _) _)).mono ?_
  rintro e w1 ⟨rfl,hb1,hb0⟩
  have p0:w1.cell? ⟨w.heap.size,0,none⟩=some (.int .i64 (fl:Int)):=by rw [hb1.cell (p:=⟨w.heap.size,0,none⟩) (by simp)]; simp [go_sem]
  go_wp2
  refine bodyPost_ret (results_none rfl _ _ _) rfl ?_
  exact ⟨rfl,hb0⟩
set_option maxHeartbeats 800000 in
theorem unk_no9 (fl ty:Nat)(a1:Option Addr)(n1 c1:Nat)(a2:Option Addr)(c2:Nat)(all:List Nat)(X:Nat)(w:World)(hf:128≤fl)(hf2:fl < 256)(hz:¬ fl / 64 % 2=0)(hn:255 < n1)(hl:all.length≤100000)(h:BRd w a2 all) :
    Calls Tryz.prog 96 #[partV (fl:Int) (ty:Int) a1 n1 c1 a2 all.length c2,.pointer (some ⟨X,0,none⟩)] w fun e w'=>Throws w w' 9 all e:=by
  have ha:(bits .and .i64 (fl:Int) 128 != 0)=true:=by rw [and128 fl hf2]; exact decide_eq_true hf
  have hz2:(bits .and .i64 (fl:Int) 64 == 0)=false:=by rw [and64z fl hf2]; exact decide_eq_false hz
  have K:Hid (∀ w1,Below w.heap.size w w1→Calls Tryz.prog 97 #[partV (fl:Int) (ty:Int) a1 n1 c1 a2 all.length c2,.bool false,.int .i64 9] w1 fun e w'=>Throws w w' 9 all e):=fun w1 hb=>(refuse_no _ _ 9 a1 n1 c1 a2 c2 all w1 hl (h.below hb)).mono fun e w' h9=>h9.from hb
  have dn:decide ((n1:Int)≤255)=false:=decide_eq_false (by omega)
  clear h
  unfold partV at K ⊢
  unfold Throws at K ⊢
  unfold thrown at K ⊢
  generalize all.length=n2 at *
  go_enter Tryz.func96,Tryz.ntmps96
  go_wp2_with fail
  refine (refuse_go _ _ _ _ _ _ _ _ _ w _ ((Below.refl _ _).alloc (Nat.le_refl _) _)).mono ?_
  rintro e w1 ⟨rfl,hb1,hb0⟩
  have p0:w1.cell? ⟨w.heap.size,0,none⟩=some (.int .i64 (fl:Int)):=by rw [hb1.cell (p:=⟨w.heap.size,0,none⟩) (by simp)]; simp [go_sem]
  have p1:w1.cell? ⟨w.heap.size,1,none⟩=some (.int .i64 (ty:Int)):=by rw [hb1.cell (p:=⟨w.heap.size,1,none⟩) (by simp)]; simp [go_sem]
  have p2:w1.cell? ⟨w.heap.size,2,none⟩=some (.slice a1 n1 c1):=by rw [hb1.cell (p:=⟨w.heap.size,2,none⟩) (by simp)]; simp [go_sem]
  have p3:w1.cell? ⟨w.heap.size,3,none⟩=some (.slice a2 n2 c2):=by rw [hb1.cell (p:=⟨w.heap.size,3,none⟩) (by simp)]; simp [go_sem]
  have HB0:=hide hb0
  clear hb1 hb0
  go_wp2_with fail
  refine (K.out _ HB0.out).mono ?_
  rintro e w2 ⟨a9,c9,rfl,ho,hb⟩
  go_wp2
  exact ⟨rfl,a9,c9,rfl,ho,hb⟩
set_option maxHeartbeats 800000 in
theorem unk_zero (fl:Nat)(a1:Option Addr)(n1 c1:Nat)(a2:Option Addr)(n2 c2:Nat)(X:Nat)(w:World)(hf:128≤fl)(hf2:fl < 256)(hz:¬ fl / 64 % 2=0)(hn:n1≤255) :
    Calls Tryz.prog 96 #[partV (fl:Int) 0 a1 n1 c1 a2 n2 c2,.pointer (some ⟨X,0,none⟩)] w fun e w'=>e=.returned (.tuple #[])∧Below w.heap.size w w':=by
  have ha:(bits .and .i64 (fl:Int) 128 != 0)=true:=by rw [and128 fl hf2]; exact decide_eq_true hf
  have hz2:(bits .and .i64 (fl:Int) 64 == 0)=false:=by rw [and64z fl hf2]; exact decide_eq_false hz
  have dn:(n1:Int)≤255:=by omega
  unfold partV
  go_enter Tryz.func96,Tryz.ntmps96
  go_wp2_with fail
  refine (refuse_go _ _ _ _ _ _ _ _ _ w _ ((Below.refl _ _).alloc (Nat.le_refl _) _)).mono ?_
  rintro e w1 ⟨rfl,hb1,hb0⟩
  have p0:w1.cell? ⟨w.heap.size,0,none⟩=some (.int .i64 (fl:Int)):=by rw [hb1.cell (p:=⟨w.heap.size,0,none⟩) (by simp)]; simp [go_sem]
  have p1:w1.cell? ⟨w.heap.size,1,none⟩=some (.int .i64 0):=by rw [hb1.cell (p:=⟨w.heap.size,1,none⟩) (by simp)]; simp [go_sem]
  have p2:w1.cell? ⟨w.heap.size,2,none⟩=some (.slice a1 n1 c1):=by rw [hb1.cell (p:=⟨w.heap.size,2,none⟩) (by simp)]; simp [go_sem]
  have p3:w1.cell? ⟨w.heap.size,3,none⟩=some (.slice a2 n2 c2):=by rw [hb1.cell (p:=⟨w.heap.size,3,none⟩) (by simp)]; simp [go_sem]
  have hz1:w.heap.size < w1.heap.size:=by have:=World.block_lt_of_cell? w1 _ p0; simpa using this
  have HB0:=hide hb0
  clear hb1 hb0
  go_wp2_with fail
  refine (refuse_go _ _ _ _ _ _ _ _ _ w _ HB0.out).mono ?_
  rintro e w2 ⟨rfl,hb2,hb20⟩
  have q1:w2.cell? ⟨w.heap.size,1,none⟩=some (.int .i64 0):=by rw [hb2.cell (p:=⟨w.heap.size,1,none⟩) hz1]; exact p1
  go_wp2
  go_end0
  exact ⟨rfl,hb20⟩
section
variable {P:Program}{a:Act}{w w':World}{K:Act→World→Prop}{Q:Exit→Act→World→Prop}{dst:Option Tmp}{ty:TypeId}{pos:String}{after:Array Edge}{gd:Option (Nat×Bool)}
theorem kept_appendR (x y:Operand):Oper.wp P { dst:=dst,op:=.call { callee:=.builtin .append,args:=#[x,y],argTypes:=#[32,32] },type:=ty,pos:=pos,after:=after,guard:=gd } a w K Q=Kept P { dst:=dst,op:=.call { callee:=.builtin .append,args:=#[x,y],argTypes:=#[32,32] },type:=ty,pos:=pos,after:=after,guard:=gd } a w K Q:=rfl
theorem kept_appendR_intro (x y:Operand)(p q v:Value)(hx:a.eval x=p)(hy:a.eval y=q)(hr:(Builtin.append_ #[32,32] ty #[p,q]).run P w=.ok v w')(h:K (a.put dst v) w') :
    Kept P { dst:=dst,op:=.call { callee:=.builtin .append,args:=#[x,y],argTypes:=#[32,32] },type:=ty,pos:=pos,after:=after,guard:=gd } a w K Q:=by
  unfold Kept Oper.wp execOp
  simp only [resolve,invoke,builtin,Sem.run_bind,Sem.run_pure,Result.andThen_ok,List.map_toArray,List.map_cons,List.map_nil,hx,hy,hr]
  exact h
end
section
attribute [local go_sem ↓] Go.wp_at_zero Go.wp_at_succ kept_appendR
set_option maxHeartbeats 3200000 in
theorem unk_put (fl ty:Nat)(a1:Option Addr)(c1:Nat)(a2:Option Addr)(n2 c2:Nat)(d:List Nat)(X B:Nat)(a:At)(w:World)(hf:128≤fl)(hf2:fl < 256)(hz:¬ fl / 64 % 2=0)(hn:d.length≤255)(ht:8 < ty)(h:BRd w a1 d)(hbox:Box w X B a)(hB:B≤w.heap.size)(hl:a.raws.length≤10000) :
    Calls Tryz.prog 96 #[partV (fl:Int) (ty:Int) a1 d.length c1 a2 n2 c2,.pointer (some ⟨X,0,none⟩)] w fun e w'=>e=.returned (.tuple #[])∧Box w' X B { a with raws:=a.raws++[(224,(ty:Int),d)] }∧Keeps (NotBox X B) w w':=by
  have ha:(bits .and .i64 (fl:Int) 128 != 0)=true:=by rw [and128 fl hf2]; exact decide_eq_true hf
  have hz2:(bits .and .i64 (fl:Int) 64 == 0)=false:=by rw [and64z fl hf2]; exact decide_eq_false hz
  have dn:(d.length:Int)≤255:=by omega
  have dt:((ty:Int) != 0)=true:=by simp; omega
  have hX:=hbox.pos
  have hXB:=hbox.lt
  have KC:Hid (∀ w1,Below w.heap.size w w1→Calls Tryz.prog 60 #[.slice a1 d.length c1] w1 fun e w'=>∃ a9 c9,e=.returned (.slice a9 d.length c9)∧w'.ownsRow w1.heap.size 5 1 (.slice a9 d.length c9) d.length (bcells d)∧Below w1.heap.size w1 w'):=fun w1 hb=>clone_any a1 c1 d w1 (by omega) (h.below hb)
  have HX:=hide hbox
  clear h hbox
  unfold partV
  generalize hdl:d.length=n1 at *
  go_enter Tryz.func96,Tryz.ntmps96
  go_wp2_with fail
  refine (refuse_go _ _ _ _ _ _ _ _ _ w _ ((Below.refl _ _).alloc (Nat.le_refl _) _)).mono ?_
  rintro e w1 ⟨rfl,hb1,hb0⟩
  have p0:w1.cell? ⟨w.heap.size,0,none⟩=some (.int .i64 (fl:Int)):=by rw [hb1.cell (p:=⟨w.heap.size,0,none⟩) (by simp)]; simp [go_sem]
  have p1:w1.cell? ⟨w.heap.size,1,none⟩=some (.int .i64 (ty:Int)):=by rw [hb1.cell (p:=⟨w.heap.size,1,none⟩) (by simp)]; simp [go_sem]
  have p2:w1.cell? ⟨w.heap.size,2,none⟩=some (.slice a1 n1 c1):=by rw [hb1.cell (p:=⟨w.heap.size,2,none⟩) (by simp)]; simp [go_sem]
  have p3:w1.cell? ⟨w.heap.size,3,none⟩=some (.slice a2 n2 c2):=by rw [hb1.cell (p:=⟨w.heap.size,3,none⟩) (by simp)]; simp [go_sem]
  have hz1:w.heap.size < w1.heap.size:=by have:=World.block_lt_of_cell? w1 _ p0; simpa using this
  have HB0:=hide hb0
  clear hb1 hb0
  go_wp2_with fail
  refine (refuse_go _ _ _ _ _ _ _ _ _ w _ HB0.out).mono ?_
  rintro e w2 ⟨rfl,hb2,hb20⟩
  have q1:w2.cell? ⟨w.heap.size,1,none⟩=some (.int .i64 (ty:Int)):=by rw [hb2.cell (p:=⟨w.heap.size,1,none⟩) hz1]; exact p1
  have q2:w2.cell? ⟨w.heap.size,2,none⟩=some (.slice a1 n1 c1):=by rw [hb2.cell (p:=⟨w.heap.size,2,none⟩) hz1]; exact p2
  have hz12:w.heap.size < w2.heap.size:=Nat.lt_of_lt_of_le hz1 hb2.size
  have HX2:=hide (HX.out.later hb20)
  obtain ⟨p6,k6,r6,_⟩:=HX2.out.c6
  have HB20:=hide hb20
  have hX2:X < w2.heap.size:=by omega
  generalize hrl:a.raws.length=rl at *
  have HRL:=hide hrl
  clear hb2 hb20 p0 p1 p2 p3 hz1 HB0 HX hrl
  go_wp2_with fail
  go_region_with (first
    | (go_at_call 60; refine (KC.out _ (HB20.out.drew)).mono ?_; rintro e w9 ⟨a9,c9,rfl,ho9,hb9⟩
       have hbd:Below w2.heap.size w2 w9:=((Below.refl _ _).drew).trans hb9
       have HX9:=hide (HX2.out.later hbd)
       have hX9:X < w9.heap.size:=Nat.lt_of_lt_of_le hX2 hbd.size
       have hz9:w.heap.size < w9.heap.size:=Nat.lt_of_lt_of_le hz12 hbd.size
       have r69:w9.cell? ⟨X,6,none⟩=some (.slice p6 rl k6):=(by rw [hbd.cell (p:=⟨X,6,none⟩) hX2]; exact r6)
       have q19:w9.cell? ⟨w.heap.size,1,none⟩=some (.int .i64 (ty:Int)):=(by rw [hbd.cell (p:=⟨w.heap.size,1,none⟩) hz12]; exact q1)
       obtain ⟨p',c',w3,hr3,hb3,hx3⟩:=HX9.out.snoc (f:=224) (t:=(ty:Int)) (ds:=d) (u:=.slice a9 n1 c9) (by have:=hbd.size; have:=HB20.out.size; omega) (by rw [HRL.out]; omega) (by rw [HRL.out]; exact r69) (by rw [hdl]; exact own_base ho9 (by simp; have:=HB20.out.size; omega)) w9.heap.size rfl
       rw [HRL.out] at hr3 hx3
       have t6:w3.cell? ⟨X,6,none⟩=some (.slice p6 rl k6):=(by rw [hb3.cell (p:=⟨X,6,none⟩) hXB]; exact r69)
       have z6:w3.frozen? ⟨X,6,none⟩=false:=(by rw [hb3.frozen (p:=⟨X,6,none⟩) hXB]; exact HX9.out.fz 6)
       have HR3:=hide hr3
       have HX3:=hide hx3
       have HK3:=hide (keeps_low (keeps_low (keeps_box (X:=X) (B:=B) HB20.out) (hbd.mono (by have:=HB20.out.size; omega))) hb3)
       clear hr3 hx3 hb3 hbd hb9)
    | (refine kept_appendR_intro _ _ (.slice p6 rl k6) (.slice (some ⟨w9.heap.size,0,none⟩) 1 1) (.slice p' (rl+1) c') (w':=w3) (by rfl) (by rfl) (by exact HR3.out) ?_))
  all_goals go_wp2
  all_goals go_end0
  all_goals exact ⟨rfl,HX3.out,HK3.out.setCell X 6 _ (.inl (.inl rfl))⟩
end
end Go.Proofs.YtogbjeaceboemaaGreatDoor
