import Derived.Test.YtdojlejehjbliaaGreatDoorPA30
namespace Go.Proofs.YtdojlejehjbliaaGreatDoor
set_option maxHeartbeats 6400000
open _root_.Go.Value renaming int → I,slice → V
open _root_.Go.IntKind renaming i64 → J
open _root_.Option renaming none → Z,some → U
open _root_.Go.Obj renaming cells → Y
open _root_.List renaming length_append → E
open _root_.Go.World renaming block_lt_of_cell? → D
open _root_.Nat renaming le_refl → R
open _root_.Go.Proofs.Tryz renaming prog → T
open _root_.Array renaming getElem?_eq_some_iff → L
open Go.RowKit
set_option maxRecDepth 100000
set_option linter.unusedVariables false
theorem Ja7 (fl:Nat)(X B:Nat)(a:At)(da:Option Addr)(dn dc:Nat)(la:Option Addr)(ln lc:Nat)(d all:List Nat)(w:World)(hf:fl < 256)(hX:Box w X B a)(hB:B≤w.heap.size)(hdn:d.length=dn)(hdc:dn≤dc)(hrd:BRd w da d)(h1:((fl:Int) / 64 * 64 != 64)=false)(h2:((fl:Int) / 32 % 2 == 1)=false)(hrl:a.raws.length≤5000)(hd1:dn=0) :
  Calls T 47 #[.pointer (U ⟨X,0,Z⟩),I J (fl:Int),I J 6,V da dn dc,V la ln lc] w fun e w'=>e=.returned (.agg #[I J 0,I J 0,V Z 0 0])∧Box w' X B ({ a with raws:=Qf7 (64,6,d) a.raws })∧Qae (Qa2 X B) w w':=by
 have hXl:=hX.pos
 have hXB:=hX.lt
 have HX:=Qaa (hX.later (Qad w))
 have HD:=Qaa (hrd.below (Qad w))
 have HDN:=Qaa hdn
 have hks:=Qaz w
 have hXN:X < (knW w).heap.size:=by omega
 have HBK0:=Qaa (Qcs w)
 have KW:=Qaa (Qpv X B a 64 6 da dn dc d (knW w) hdn HX.out (by have:=(Qad w).size; omega) HD.out hrl (by omega))
 have hXne:X≠w.heap.size:=by omega
 clear hX hrd hdn
 subst hd1
 go_enter Tryz.func47,Tryz.ntmps47
 go_upto_if 38 with fail
 have hk:((w.alloc (Y #[I J 0,I J 0,V Z 0 0] 38)).alloc (Y #[I J 0,I J 64,I J 64,I J 64,I J 128,I J 64,I J 64,I J 192,I J 192] 3)).alloc (Y #[I J 0,I J 1,I J (-1),I J 4,I J 4,I J 4,I J 0,I J 8,I J (-1)] 3)=knW w:=rfl
 rw [hk]
 clear hk
 go_wp2_with fail
 refine KW.out.mono ?_
 rintro e w4 ⟨rfl,hbx,hkx⟩
 have HBX:=Qaa hbx
 have HBK:Hid (w4.heap[w.heap.size]?=U (Y #[I J 0,I J 0,V Z 0 0] 38 (0,0))):=by show _=_; rw [hkx.block _ (by omega) (fun e=>hXne e.symm)]; exact HBK0.out
 have HKP:Hid (Qae (Qa2 X B) w w4):=(Qat (Qad w)).trans (hkx.mono (fun _ _ h=>.inl h)) (fun b _ h=>h)
 obtain ⟨c0,c1,c2,f0,f1,f2⟩:=Qgt HBK.out
 clear hbx hkx hks hXB
 go_wp2_with fail
 exact bodyPost_ret (v:=.agg #[I J 0,I J 0,V Z 0 0]) (by simp [results,Tryz.results47,go_sem,c0,c1,c2]) rfl ⟨rfl,by rw [Qcy HBK.out]; exact HBX.out,by rw [Qcy HBK.out]; exact HKP.out⟩
theorem Jbj (fl:Nat)(X B:Nat)(a:At)(da:Option Addr)(dn dc:Nat)(la:Option Addr)(ln lc:Nat)(d all:List Nat)(w:World)(hf:fl < 256)(hX:Box w X B a)(hB:B≤w.heap.size)(hdn:d.length=dn)(hdc:dn≤dc)(hrd:BRd w da d)(h1:((fl:Int) / 64 * 64 != 192)=false)(q:Bool)(h2:((fl:Int) / 32 % 2 == 1)=q)(hrl:a.raws.length≤5000)(hd1:dn=8) :
  Calls T 47 #[.pointer (U ⟨X,0,Z⟩),I J (fl:Int),I J 7,V da dn dc,V la ln lc] w fun e w'=>e=.returned (.agg #[I J 0,I J 0,V Z 0 0])∧Box w' X B ({ a with raws:=Qf7 (192,7,d) a.raws })∧Qae (Qa2 X B) w w':=by
 have hXl:=hX.pos
 have hXB:=hX.lt
 have HX:=Qaa (hX.later (Qad w))
 have HD:=Qaa (hrd.below (Qad w))
 have HDN:=Qaa hdn
 have hks:=Qaz w
 have hXN:X < (knW w).heap.size:=by omega
 have HBK0:=Qaa (Qcs w)
 have KW:=Qaa (Qpv X B a 192 7 da dn dc d (knW w) hdn HX.out (by have:=(Qad w).size; omega) HD.out hrl (by omega))
 have hXne:X≠w.heap.size:=by omega
 clear hX hrd hdn
 subst hd1
 cases q
 ·go_enter Tryz.func47,Tryz.ntmps47
  go_upto_if 38 with fail
  have hk:((w.alloc (Y #[I J 0,I J 0,V Z 0 0] 38)).alloc (Y #[I J 0,I J 64,I J 64,I J 64,I J 128,I J 64,I J 64,I J 192,I J 192] 3)).alloc (Y #[I J 0,I J 1,I J (-1),I J 4,I J 4,I J 4,I J 0,I J 8,I J (-1)] 3)=knW w:=rfl
  rw [hk]
  clear hk
  go_wp2_with fail
  refine KW.out.mono ?_
  rintro e w4 ⟨rfl,hbx,hkx⟩
  have HBX:=Qaa hbx
  have HBK:Hid (w4.heap[w.heap.size]?=U (Y #[I J 0,I J 0,V Z 0 0] 38 (0,0))):=by show _=_; rw [hkx.block _ (by omega) (fun e=>hXne e.symm)]; exact HBK0.out
  have HKP:Hid (Qae (Qa2 X B) w w4):=(Qat (Qad w)).trans (hkx.mono (fun _ _ h=>.inl h)) (fun b _ h=>h)
  obtain ⟨c0,c1,c2,f0,f1,f2⟩:=Qgt HBK.out
  clear hbx hkx hks hXB
  go_wp2_with fail
  exact bodyPost_ret (v:=.agg #[I J 0,I J 0,V Z 0 0]) (by simp [results,Tryz.results47,go_sem,c0,c1,c2]) rfl ⟨rfl,by rw [Qcy HBK.out]; exact HBX.out,by rw [Qcy HBK.out]; exact HKP.out⟩
 ·go_enter Tryz.func47,Tryz.ntmps47
  go_upto_if 38 with fail
  have hk:((w.alloc (Y #[I J 0,I J 0,V Z 0 0] 38)).alloc (Y #[I J 0,I J 64,I J 64,I J 64,I J 128,I J 64,I J 64,I J 192,I J 192] 3)).alloc (Y #[I J 0,I J 1,I J (-1),I J 4,I J 4,I J 4,I J 0,I J 8,I J (-1)] 3)=knW w:=rfl
  rw [hk]
  clear hk
  go_wp2_with fail
  refine KW.out.mono ?_
  rintro e w4 ⟨rfl,hbx,hkx⟩
  have HBX:=Qaa hbx
  have HBK:Hid (w4.heap[w.heap.size]?=U (Y #[I J 0,I J 0,V Z 0 0] 38 (0,0))):=by show _=_; rw [hkx.block _ (by omega) (fun e=>hXne e.symm)]; exact HBK0.out
  have HKP:Hid (Qae (Qa2 X B) w w4):=(Qat (Qad w)).trans (hkx.mono (fun _ _ h=>.inl h)) (fun b _ h=>h)
  obtain ⟨c0,c1,c2,f0,f1,f2⟩:=Qgt HBK.out
  clear hbx hkx hks hXB
  go_wp2_with fail
  exact bodyPost_ret (v:=.agg #[I J 0,I J 0,V Z 0 0]) (by simp [results,Tryz.results47,go_sem,c0,c1,c2]) rfl ⟨rfl,by rw [Qcy HBK.out]; exact HBX.out,by rw [Qcy HBK.out]; exact HKP.out⟩
set_option linter.unusedVariables false
section
variable {P:Program}{a:Act}{w w':World}{K:Act→World→Prop}{Q:Exit→Act→World→Prop}{dst:Option Tmp}{ty:TypeId}{pos:String}{after:Array Edge}{gd:Option (Nat×Bool)}
theorem Qs3 (x y:Operand):Oper.wp P { dst:=dst,op:=.call { callee:=.builtin .append,args:=#[x,y],argTypes:=#[31,31] },type:=ty,pos:=pos,after:=after,guard:=gd } a w K Q=Qdl P { dst:=dst,op:=.call { callee:=.builtin .append,args:=#[x,y],argTypes:=#[31,31] },type:=ty,pos:=pos,after:=after,guard:=gd } a w K Q:=rfl
theorem Qgb (x y:Operand)(p q v:Value)(hx:a.eval x=p)(hy:a.eval y=q)(hr:(Builtin.append_ #[31,31] ty #[p,q]).run P w=.ok v w')(h:K (a.put dst v) w') :
    Qdl P { dst:=dst,op:=.call { callee:=.builtin .append,args:=#[x,y],argTypes:=#[31,31] },type:=ty,pos:=pos,after:=after,guard:=gd } a w K Q:=by
  unfold Qdl Oper.wp execOp
  simp only [resolve,invoke,builtin,Sem.run_bind,Sem.run_pure,Result.andThen_ok,List.map_toArray,List.map_cons,List.map_nil,hx,hy,hr]
  exact h
end
theorem Box.more {w:World}{X B:Nat}{a:At}{p:Option Addr}{c:Nat} (nn:Nat) (h:Box w X B a) (hB:B≤w.heap.size) (hl:a.comms.length≤100000) (hv:w.cell? ⟨X,5,Z⟩=U (V p a.comms.length c)) :
    ∃ p' c' w',(Builtin.append_ #[31,31] 31 #[V p a.comms.length c,V (U ⟨w.heap.size,0,Z⟩) 1 1]).run T (w.alloc (Y #[I .u32 (nn:Int)] 24))=.ok (V p' (a.comms.length+1) c') w'∧Below B w w'∧w'.cell? ⟨X,5,Z⟩=U (V p a.comms.length c)∧w'.frozen? ⟨X,5,Z⟩=false∧Box (w'.setCell ⟨X,5,Z⟩ (V p' (a.comms.length+1) c')) X B { a with comms:=a.comms++[nn] }∧∀ (N:Nat) cc t,w.heap[N]?=U (Y cc t (0,0))→t≠24→w'.heap[N]?=w.heap[N]?:=by
  obtain ⟨p5,k5,q5,o5⟩:=h.c5
  rw [hv] at q5
  simp only [Option.some.injEq,Value.slice.injEq,true_and] at q5
  obtain ⟨rfl,rfl⟩:=q5
  obtain ⟨p1,k1,q1,o1⟩:=h.c1
  obtain ⟨p6,k6,q6,o6⟩:=h.c6
  have hb1:Below B w (w.alloc (Y #[I .u32 (nn:Int)] 24)):=(Below.refl _ _).alloc hB _
  have hbw:Below w.heap.size w (w.alloc (Y #[I .u32 (nn:Int)] 24)):=(Below.refl _ _).alloc (R _) _
  have hoa:=o5.alloc (Y #[I .u32 (nn:Int)] 24)
  obtain ⟨v',w',hr,h2,h3,h4,_⟩:=Qe7 elemU32 (w:=w.alloc (Y #[I .u32 (nn:Int)] 24)) hoa (by simp; omega) ⟨w.heap.size,0,Z⟩ 1 1 [I .u32 (nn:Int)] rfl (fun j x hx=>by
    rw [Addr.add_mid,Nat.zero_add,World.cell?_alloc_mark]
    simpa using hx) (by intro x hx; simp at hx; subst hx; rfl) (by omega)
  obtain ⟨p',c',e'⟩:=Qbs h2
  subst e'
  have hB2:=h.lt
  have hbb:Below B w w':=hb1.trans h3
  have eX:∀ j,w'.cell? ⟨X,j,Z⟩=w.cell? ⟨X,j,Z⟩:=fun j=>hbb.cell (p:=⟨X,j,Z⟩) hB2
  have fX:∀ j,w'.frozen? ⟨X,j,Z⟩=false:=fun j=>by rw [hbb.frozen (p:=⟨X,j,Z⟩) hB2]; exact h.fz j
  have oP:Qa7 w' B (V p1 a.path.length k1) a.path:=(o1.later hbw).grown hoa h4 (by decide) (by decide)
  have oR:Qbr w' B (V p6 a.raws.length k6) a.raws:=by
    obtain ⟨cs,ho,hc⟩:=o6.later hbw
    refine ⟨cs,Qdx ho h4 (fun k hk=>Qdq ho hoa (by decide) k hk),fun i r hi=>?_⟩
    obtain ⟨z1,z2,u,z3,z4⟩:=hc i r hi
    exact ⟨z1,z2,u,z3,Qdx z4 h4 (fun k hk=>Qdq z4 hoa (by decide) k hk)⟩
  have oC:w'.ownsRow B 24 1 (V p' (a.comms.length+1) c') (a.comms++[nn]).length (Qb8 (a.comms++[nn])):=by
    rw [E,Qr9]
    exact h2
  have key:∀ (j:Nat) (v:Value),j≠5→w.cell? ⟨X,j,Z⟩=U v→(w'.setCell ⟨X,5,Z⟩ (V p' (a.comms.length+1) c')).cell? ⟨X,j,Z⟩=U v:=fun j v hj hv9=>by
    rw [World.cell?_setCell_other _ _ _ _ (by intro e9; injection e9 with _ e2 _; exact hj e2.symm),eX]
    exact hv9
  refine ⟨p',c',w',hr,hbb,by rw [eX]; exact hv,fX 5,?_,fun N cc t hN ht=>?_⟩
  · exact ⟨key 0 _ (by omega) h.c0,⟨p1,k1,key 1 _ (by omega) q1,oP.under hB2 _ _⟩,key 2 _ (by omega) h.c2,key 3 _ (by omega) h.c3,key 4 _ (by omega) h.c4,⟨p',c',by
      rw [E]
      exact World.cell?_setCell_same _ _ _ (by rw [eX]; exact hv),by
      rw [E]
      have h9:=Qac oC hB2 5 (V p' (a.comms.length+1) c')
      rw [E] at h9
      exact h9⟩,⟨p6,k6,key 6 _ (by omega) q6,oR.under hB2 _ _⟩,fun j=>by rw [World.frozen?_setCell]; exact fX j,hB2⟩
  · have hlt:=(L.1 hN).1
    rw [h4.block N (by simp; omega) (fun e=>?_),heap_alloc_old _ _ hlt]
    rcases hoa.2 with ⟨e1,_⟩ | ⟨g',cap,cur,e1,_,hc,_⟩
    · rw [e1] at e; cases e
    · rw [e1] at e
      cases e
      rw [heap_alloc_old _ _ hlt,hN] at hc
      simp only [Option.some.injEq,Obj.cells.injEq] at hc
      exact ht hc.2.1
theorem Qum (d:List Nat)(k:Nat)(h:k < d.length / 4):(Qcl d)[k]?=U (num (fun q=>d.getD (4 * k+q) 0)):=by
  unfold Qcl
  simp [h]
theorem Qk7 (d:List Nat)(k:Nat)(h:k < d.length / 4):(Qcl d).take (k+1)=(Qcl d).take k++[num (fun q=>d.getD (4 * k+q) 0)]:=by
  have hl:k < (Qcl d).length:=by unfold Qcl; simpa using h
  rw [List.take_succ_eq_append_getElem hl]
  have h1:=Qum d k h
  rw [List.getElem?_eq_getElem hl] at h1
  rw [Option.some.inj h1]
theorem Qun (d:List Nat)(hd:∀ x∈d,x < 256)(k:Nat):num (fun q=>d.getD (4 * k+q) 0) < 4294967296:=by
  have h0:=Qc4 hd (4 * k+0)
  have h1:=Qc4 hd (4 * k+1)
  have h2:=Qc4 hd (4 * k+2)
  have h3:=Qc4 hd (4 * k+3)
  unfold num
  simp only
  omega
theorem Jau (fl:Nat)(X B:Nat)(a:At)(da:Option Addr)(dn dc:Nat)(la:Option Addr)(ln lc:Nat)(d all:List Nat)(w:World)(hf:fl < 256)(hX:Box w X B a)(hB:B≤w.heap.size)(hdn:d.length=dn)(hdc:dn≤dc)(hrd:BRd w da d)(hl:all.length=ln)(hln:ln≤60000)(hr:BRd w la all)(h1:((fl:Int) / 64 * 64 != 192)=false)(q:Bool)(h2:((fl:Int) / 32 % 2 == 1)=q)(h3:((dn:Int) == 0)=false)(h4:((dn:Int) % 4 != 0)=false)(h5:(128:Int) < (dn:Int)) :
    Calls T 47 #[.pointer (U ⟨X,0,Z⟩),I J (fl:Int),I J 8,V da dn dc,V la ln lc] w fun e w'=>∃ a9 c9,e=.returned (.agg #[I J 3,I J 9,V a9 ln c9])∧w'.ownsRow w.heap.size 5 1 (V a9 ln c9) ln (Qal all)∧Qae (Qa2 X B) w w':=by
  have KN:=Qaa (Qa9 3 9 la lc all (knW w) (by omega) (hr.below (Qad w)))
  rw [hl] at KN
  clear hr hl
  have hXl:=hX.pos
  have hXB:=hX.lt
  have HX:=Qaa (hX.later (Qad w))
  have HD:=Qaa (hrd.below (Qad w))
  have HDN:=Qaa hdn
  have hks:=Qaz w
  have hXN:X < (knW w).heap.size:=by omega
  have HBK0:=Qaa (Qcs w)
  clear hX hrd hks hdn hXB
  cases q
  · go_enter Tryz.func47,Tryz.ntmps47
    go_upto_if 38 with fail
    have hk:((w.alloc (Y #[I J 0,I J 0,V Z 0 0] 38)).alloc (Y #[I J 0,I J 64,I J 64,I J 64,I J 128,I J 64,I J 64,I J 192,I J 192] 3)).alloc (Y #[I J 0,I J 1,I J (-1),I J 4,I J 4,I J 4,I J 0,I J 8,I J (-1)] 3)=knW w:=rfl
    rw [hk]
    clear hk
    go_wp2_with fail
    refine KN.out.mono ?_
    rintro e w4 ⟨a9,c9,rfl,ho4,hb4⟩
    have HO4:=Qaa ho4
    have HBK:=Qaa (Qem hb4)
    have HKP:Hid (Qae (Qa2 X B) w w4):=Qat ((Qad w).trans (hb4.mono (Qad w).size))
    have hz:w.heap.size < (knW w).heap.size:=by rw [Qaz]; omega
    have HZ:=Qaa hz
    clear ho4 hb4 hz
    obtain ⟨c0,c1,c2,f0,f1,f2⟩:=Qgt HBK.out
    go_wp2_with fail
    exact bodyPost_ret (v:=.agg #[I J 3,I J 9,V a9 ln c9]) (by simp [results,Tryz.results47,go_sem,c0,c1,c2]) rfl ⟨a9,c9,rfl,Qan (Qac (Qac (Qac HO4.out HZ.out _ _) HZ.out _ _) HZ.out _ _) (Nat.le_of_lt HZ.out),((HKP.out.setCell w.heap.size 0 _ (.inr (R _))).setCell w.heap.size 1 _ (.inr (R _))).setCell w.heap.size 2 _ (.inr (R _))⟩
  · go_enter Tryz.func47,Tryz.ntmps47
    go_upto_if 38 with fail
    have hk:((w.alloc (Y #[I J 0,I J 0,V Z 0 0] 38)).alloc (Y #[I J 0,I J 64,I J 64,I J 64,I J 128,I J 64,I J 64,I J 192,I J 192] 3)).alloc (Y #[I J 0,I J 1,I J (-1),I J 4,I J 4,I J 4,I J 0,I J 8,I J (-1)] 3)=knW w:=rfl
    rw [hk]
    clear hk
    go_wp2_with fail
    refine KN.out.mono ?_
    rintro e w4 ⟨a9,c9,rfl,ho4,hb4⟩
    have HO4:=Qaa ho4
    have HBK:=Qaa (Qem hb4)
    have HKP:Hid (Qae (Qa2 X B) w w4):=Qat ((Qad w).trans (hb4.mono (Qad w).size))
    have hz:w.heap.size < (knW w).heap.size:=by rw [Qaz]; omega
    have HZ:=Qaa hz
    clear ho4 hb4 hz
    obtain ⟨c0,c1,c2,f0,f1,f2⟩:=Qgt HBK.out
    go_wp2_with fail
    exact bodyPost_ret (v:=.agg #[I J 3,I J 9,V a9 ln c9]) (by simp [results,Tryz.results47,go_sem,c0,c1,c2]) rfl ⟨a9,c9,rfl,Qan (Qac (Qac (Qac HO4.out HZ.out _ _) HZ.out _ _) HZ.out _ _) (Nat.le_of_lt HZ.out),((HKP.out.setCell w.heap.size 0 _ (.inr (R _))).setCell w.heap.size 1 _ (.inr (R _))).setCell w.heap.size 2 _ (.inr (R _))⟩
section
attribute [local go_sem ↓] Go.wp_at_zero Go.wp_at_succ Qs3
theorem Jar (fl:Nat)(X B:Nat)(a:At)(da:Option Addr)(dn dc:Nat)(la:Option Addr)(ln lc:Nat)(d all:List Nat)(w:World)(hf:fl < 256)(hX:Box w X B a)(hB:B≤w.heap.size)(hdn:d.length=dn)(hdc:dn≤dc)(hrd:BRd w da d)(h1:((fl:Int) / 64 * 64 != 192)=false)(q:Bool)(h2:((fl:Int) / 32 % 2 == 1)=q)(hdX:∀ x,da=U x→0 < dn→x.block < X)(hcl:a.comms.length≤5000)(h3:((dn:Int) == 0)=false)(h4:((dn:Int) % 4 != 0)=false)(h5:dn≤128) :
    Calls T 47 #[.pointer (U ⟨X,0,Z⟩),I J (fl:Int),I J 8,V da dn dc,V la ln lc] w fun e w'=>e=.returned (.agg #[I J 0,I J 0,V Z 0 0])∧Box w' X B ({ a with comms:=a.comms++Qcl d })∧Qae (Qa2 X B) w w':=by
  have hXl:=hX.pos
  have hXB:=hX.lt
  have HX:=Qaa (hX.later (Qad w))
  have HD:=Qaa (hrd.below (Qad w))
  have HDN:=Qaa hdn
  have hks:=Qaz w
  have hXN:X < (knW w).heap.size:=by omega
  have HBK0:=Qaa (Qcs w)
  have h3n:dn≠0:=fun e=>by rw [e] at h3; simp at h3
  have h4n:(dn:Int) % 4=0:=by simpa using h4
  obtain ⟨b,o,rfl,hc⟩:=HD.out.1.2 (by rw [hdn]; omega)
  have hbX:b < X:=hdX _ rfl (by omega)
  obtain ⟨m,hm⟩:∃ m,m=dn / 4:=⟨_,rfl⟩
  have hm4:dn=4 * m:=by omega
  have HM:Hid (d.length / 4=m):=by show _=_; rw [hdn,hm]
  have hbl:b < w.heap.size:=by omega
  have HCW:Hid (∀ i,i < dn→w.cell? ⟨b,o+i,Z⟩=U (I .u8 (d.getD i 0:Int))):=fun i hi=>by
    have h9:=hc i (by rw [hdn]; exact hi)
    rw [(Qad w).cell (p:=⟨b,o+i,Z⟩) hbl] at h9
    exact h9
  have h5':decide ((128:Int) < (dn:Int))=false:=decide_eq_false (by omega)
  have HCL:=Qaa hcl
  have HB0:=Qaa hB
  have HXB:=Qaa hXB
  have HM4:=Qaa hm4
  clear hX hrd hc hdn hdX hm h4n hm4
  cases q
  · go_enter Tryz.func47,Tryz.ntmps47
    go_upto_if 38 with fail
    have hk:((w.alloc (Y #[I J 0,I J 0,V Z 0 0] 38)).alloc (Y #[I J 0,I J 64,I J 64,I J 64,I J 128,I J 64,I J 64,I J 192,I J 192] 3)).alloc (Y #[I J 0,I J 1,I J (-1),I J 4,I J 4,I J 4,I J 0,I J 8,I J (-1)] 3)=knW w:=rfl
    rw [hk]
    clear hk
    go_wp2_with fail
    go_loopw [15] (fun i wq=>∃ k:Nat,k≤m∧i=I J ((4 * k:Nat):Int)∧Hid (Box wq X B { a with comms:=a.comms++(Qcl d).take k })∧Hid (wq.heap[w.heap.size]?=U (Y #[I J 0,I J 0,V Z 0 0] 38 (0,0)))∧Hid (Qae (Qa2 X B) w wq)) (fun i _=>dn - (intOf i).toNat)
    case atStart=>exact ⟨0,Nat.zero_le _,rfl,by show Box _ _ _ _; rw [List.take_zero,List.append_nil]; exact HX.out,HBK0,Qat (Qad w)⟩
    case round =>
      obtain ⟨k,hk,rfl,HBX,HBK,HKP⟩:=hrel
      by_cases hlt:k < m
      · have hm4:=HM4.out
        have HTK:=Qaa (Qk7 d k (by rw [HM.out]; exact hlt))
        have hn2:=Qun d HD.out.2 k
        have hln:(a.comms++(Qcl d).take k).length≤10000:=by rw [E,List.length_take]; have:=HCL.out; omega
        obtain ⟨p5,k5,q5,_⟩:=HBX.out.c5
        have hN4:w.heap.size < wr.heap.size:=(L.1 HBK.out).1
        have hBr:B≤wr.heap.size:=by have:=HB0.out; omega
        have KU:Hid (Calls T 25 #[V (U ⟨b,o+4 * k,Z⟩) (dn - 4 * k) (dc - 4 * k)] wr.drew fun e w5=>e=.returned (I J (num (fun q=>d.getD (4 * k+q) 0):Int))∧w5.cell? ⟨X,5,Z⟩=U (V p5 (a.comms++(Qcl d).take k).length k5) ∧
            ∃ p' c' w6,(Builtin.append_ #[31,31] 31 #[V p5 (a.comms++(Qcl d).take k).length k5,V (U ⟨w5.heap.size,0,Z⟩) 1 1]).run T (w5.alloc (Y #[I .u32 (num (fun q=>d.getD (4 * k+q) 0):Int)] 24))=.ok (V p' ((a.comms++(Qcl d).take k).length+1) c') w6∧w6.cell? ⟨X,5,Z⟩=U (V p5 (a.comms++(Qcl d).take k).length k5)∧w6.frozen? ⟨X,5,Z⟩=false∧X < w6.heap.size∧Box (w6.setCell ⟨X,5,Z⟩ (V p' ((a.comms++(Qcl d).take k).length+1) c')) X B { a with comms:=a.comms++(Qcl d).take (k+1) }∧(w6.setCell ⟨X,5,Z⟩ (V p' ((a.comms++(Qcl d).take k).length+1) c')).heap[w.heap.size]?=U (Y #[I J 0,I J 0,V Z 0 0] 38 (0,0))∧Qae (Qa2 X B) w (w6.setCell ⟨X,5,Z⟩ (V p' ((a.comms++(Qcl d).take k).length+1) c'))):=by
          refine (Qf5 b (o+4 * k) (dn - 4 * k) (dc - 4 * k) (fun q=>d.getD (4 * k+q) 0) wr.drew (by omega) (fun i _=>Qc4 HD.out.2 _) (fun i hi=>?_)).mono fun e w5 h=>?_
          · have h9:=HCW.out (4 * k+i) (by omega)
            rw [World.cell?_drew,HKP.out.cell ⟨b,o+4 * k+i,Z⟩ hbl (by show ¬ (b=X∨B≤b); have:=HXB.out; omega),Nat.add_assoc]
            exact h9
          · obtain ⟨he,kk,hkk⟩:=h
            have hb5:Below wr.heap.size wr w5:=by rw [hkk]; exact Qaj (Below.refl _ _).drew kk
            have hX5:=HBX.out.later hb5
            have q5':w5.cell? ⟨X,5,Z⟩=U (V p5 (a.comms++(Qcl d).take k).length k5):=by rw [hb5.cell (p:=⟨X,5,Z⟩) HBX.out.pos]; exact q5
            refine ⟨he,q5',?_⟩
            obtain ⟨p',c',w6,g1,g2,g3,g4,g5,g6⟩:=Box.more (num (fun q=>d.getD (4 * k+q) 0)) hX5 (by have:=hb5.size; omega) (by show (a.comms++(Qcl d).take k).length≤100000; omega) q5'
            have hN5:w5.heap[w.heap.size]?=U (Y #[I J 0,I J 0,V Z 0 0] 38 (0,0)):=by rw [hb5.block _ hN4]; exact HBK.out
            have hN6:w6.heap[w.heap.size]?=U (Y #[I J 0,I J 0,V Z 0 0] 38 (0,0)):=by rw [g6 _ _ _ hN5 (by decide)]; exact hN5
            refine ⟨p',c',w6,g1,g3,g4,?_,?_,?_,?_⟩
            · have:=D w6 _ g3; simpa using this
            · rw [HTK.out,← List.append_assoc]; exact g5
            · rw [Qbk _ _ _ _ _ (by have:=HXB.out; have:=HB0.out; omega)]; exact hN6
            · exact (Qgd (HKP.out.trans (Qat hb5) (fun b _ h=>h)) g2).setCell X 5 _ (.inl (.inl rfl))
        have i1:((4 * k:Nat):Int) < (dn:Int):=by omega
        have i2:((4 * k:Nat):Int)≤(dn:Int):=by omega
        have i3:(0:Int)≤((4 * k:Nat):Int):=Int.natCast_nonneg _
        have i4:(dn:Int)≤(dc:Int):=by omega
        have i5:¬ dc=4 * k:=by omega
        have hXw:=HBX.out.pos
        have HDQ:Hid (wr.drew.cell? ⟨X,5,Z⟩=U (V p5 (a.comms++(Qcl d).take k).length k5)):=by show _=_; rw [World.cell?_drew]; exact q5
        generalize num (fun q=>d.getD (4 * k+q) 0)=nn at *
        generalize (a.comms++(Qcl d).take k).length=n5 at *
        clear hN4 HTK HBX HBK HKP hm4
        have hwn:IntKind.u32.wrap (nn:Int)=(nn:Int):=by rw [IntKind.wrap_u32]; omega
        generalize hkf:4 * k=k4 at *
        go_wp2_with fail
        first | (go_region_with (first
          | (go_at_call 25
             with_reducible refine KU.out.mono ?_
             rintro e w5 ⟨rfl,hq5,p',c',w6,g1,g3,g4,g7,g5,g8,g9⟩
             have hX5:X < w5.heap.size:=by have:=D w5 _ hq5; simpa using this
             have HR6:=Qaa g1
             have HG5:=Qaa g5
             have HG8:=Qaa g8
             have HG9:=Qaa g9
             clear g1 g5 g8 g9)
          | (refine Qgb _ _ (V p5 n5 k5) (V (U ⟨w5.heap.size,0,Z⟩) 1 1) (V p' (n5+1) c') (w':=w6) (by rfl) (by rfl) (by with_reducible exact HR6.out) ?_))) | fail
        all_goals go_wp2_with fail
        all_goals exact ⟨⟨k+1,by omega,Qty (by omega),HG5,HG8,HG9⟩,by have:=HM4.out; simp [intOf]; omega⟩
      · have hkm:(Qcl d).take k=Qcl d:=List.take_of_length_le (by unfold Qcl; simp; have:=HM.out; omega)
        rw [hkm] at HBX
        obtain ⟨c0,c1,c2,f0,f1,f2⟩:=Qgt HBK.out
        have i1:¬ (((4 * k:Nat):Int) < (dn:Int)):=by have:=HM4.out; omega
        generalize 4 * k=k4 at *
        clear hkm
        go_wp2_with fail
        exact bodyPost_ret (v:=.agg #[I J 0,I J 0,V Z 0 0]) (by simp [results,Tryz.results47,go_sem,c0,c1,c2]) rfl ⟨rfl,by rw [Qcy HBK.out]; exact HBX.out,by rw [Qcy HBK.out]; exact HKP.out⟩
  · go_enter Tryz.func47,Tryz.ntmps47
    go_upto_if 38 with fail
    have hk:((w.alloc (Y #[I J 0,I J 0,V Z 0 0] 38)).alloc (Y #[I J 0,I J 64,I J 64,I J 64,I J 128,I J 64,I J 64,I J 192,I J 192] 3)).alloc (Y #[I J 0,I J 1,I J (-1),I J 4,I J 4,I J 4,I J 0,I J 8,I J (-1)] 3)=knW w:=rfl
    rw [hk]
    clear hk
    go_wp2_with fail
    go_loopw [15] (fun i wq=>∃ k:Nat,k≤m∧i=I J ((4 * k:Nat):Int)∧Hid (Box wq X B { a with comms:=a.comms++(Qcl d).take k })∧Hid (wq.heap[w.heap.size]?=U (Y #[I J 0,I J 0,V Z 0 0] 38 (0,0)))∧Hid (Qae (Qa2 X B) w wq)) (fun i _=>dn - (intOf i).toNat)
    case atStart=>exact ⟨0,Nat.zero_le _,rfl,by show Box _ _ _ _; rw [List.take_zero,List.append_nil]; exact HX.out,HBK0,Qat (Qad w)⟩
    case round =>
      obtain ⟨k,hk,rfl,HBX,HBK,HKP⟩:=hrel
      by_cases hlt:k < m
      · have hm4:=HM4.out
        have HTK:=Qaa (Qk7 d k (by rw [HM.out]; exact hlt))
        have hn2:=Qun d HD.out.2 k
        have hln:(a.comms++(Qcl d).take k).length≤10000:=by rw [E,List.length_take]; have:=HCL.out; omega
        obtain ⟨p5,k5,q5,_⟩:=HBX.out.c5
        have hN4:w.heap.size < wr.heap.size:=(L.1 HBK.out).1
        have hBr:B≤wr.heap.size:=by have:=HB0.out; omega
        have KU:Hid (Calls T 25 #[V (U ⟨b,o+4 * k,Z⟩) (dn - 4 * k) (dc - 4 * k)] wr.drew fun e w5=>e=.returned (I J (num (fun q=>d.getD (4 * k+q) 0):Int))∧w5.cell? ⟨X,5,Z⟩=U (V p5 (a.comms++(Qcl d).take k).length k5) ∧
            ∃ p' c' w6,(Builtin.append_ #[31,31] 31 #[V p5 (a.comms++(Qcl d).take k).length k5,V (U ⟨w5.heap.size,0,Z⟩) 1 1]).run T (w5.alloc (Y #[I .u32 (num (fun q=>d.getD (4 * k+q) 0):Int)] 24))=.ok (V p' ((a.comms++(Qcl d).take k).length+1) c') w6∧w6.cell? ⟨X,5,Z⟩=U (V p5 (a.comms++(Qcl d).take k).length k5)∧w6.frozen? ⟨X,5,Z⟩=false∧X < w6.heap.size∧Box (w6.setCell ⟨X,5,Z⟩ (V p' ((a.comms++(Qcl d).take k).length+1) c')) X B { a with comms:=a.comms++(Qcl d).take (k+1) }∧(w6.setCell ⟨X,5,Z⟩ (V p' ((a.comms++(Qcl d).take k).length+1) c')).heap[w.heap.size]?=U (Y #[I J 0,I J 0,V Z 0 0] 38 (0,0))∧Qae (Qa2 X B) w (w6.setCell ⟨X,5,Z⟩ (V p' ((a.comms++(Qcl d).take k).length+1) c'))):=by
          refine (Qf5 b (o+4 * k) (dn - 4 * k) (dc - 4 * k) (fun q=>d.getD (4 * k+q) 0) wr.drew (by omega) (fun i _=>Qc4 HD.out.2 _) (fun i hi=>?_)).mono fun e w5 h=>?_
          · have h9:=HCW.out (4 * k+i) (by omega)
            rw [World.cell?_drew,HKP.out.cell ⟨b,o+4 * k+i,Z⟩ hbl (by show ¬ (b=X∨B≤b); have:=HXB.out; omega),Nat.add_assoc]
            exact h9
          · obtain ⟨he,kk,hkk⟩:=h
            have hb5:Below wr.heap.size wr w5:=by rw [hkk]; exact Qaj (Below.refl _ _).drew kk
            have hX5:=HBX.out.later hb5
            have q5':w5.cell? ⟨X,5,Z⟩=U (V p5 (a.comms++(Qcl d).take k).length k5):=by rw [hb5.cell (p:=⟨X,5,Z⟩) HBX.out.pos]; exact q5
            refine ⟨he,q5',?_⟩
            obtain ⟨p',c',w6,g1,g2,g3,g4,g5,g6⟩:=Box.more (num (fun q=>d.getD (4 * k+q) 0)) hX5 (by have:=hb5.size; omega) (by show (a.comms++(Qcl d).take k).length≤100000; omega) q5'
            have hN5:w5.heap[w.heap.size]?=U (Y #[I J 0,I J 0,V Z 0 0] 38 (0,0)):=by rw [hb5.block _ hN4]; exact HBK.out
            have hN6:w6.heap[w.heap.size]?=U (Y #[I J 0,I J 0,V Z 0 0] 38 (0,0)):=by rw [g6 _ _ _ hN5 (by decide)]; exact hN5
            refine ⟨p',c',w6,g1,g3,g4,?_,?_,?_,?_⟩
            · have:=D w6 _ g3; simpa using this
            · rw [HTK.out,← List.append_assoc]; exact g5
            · rw [Qbk _ _ _ _ _ (by have:=HXB.out; have:=HB0.out; omega)]; exact hN6
            · exact (Qgd (HKP.out.trans (Qat hb5) (fun b _ h=>h)) g2).setCell X 5 _ (.inl (.inl rfl))
        have i1:((4 * k:Nat):Int) < (dn:Int):=by omega
        have i2:((4 * k:Nat):Int)≤(dn:Int):=by omega
        have i3:(0:Int)≤((4 * k:Nat):Int):=Int.natCast_nonneg _
        have i4:(dn:Int)≤(dc:Int):=by omega
        have i5:¬ dc=4 * k:=by omega
        have hXw:=HBX.out.pos
        have HDQ:Hid (wr.drew.cell? ⟨X,5,Z⟩=U (V p5 (a.comms++(Qcl d).take k).length k5)):=by show _=_; rw [World.cell?_drew]; exact q5
        generalize num (fun q=>d.getD (4 * k+q) 0)=nn at *
        generalize (a.comms++(Qcl d).take k).length=n5 at *
        clear hN4 HTK HBX HBK HKP hm4
        have hwn:IntKind.u32.wrap (nn:Int)=(nn:Int):=by rw [IntKind.wrap_u32]; omega
        generalize hkf:4 * k=k4 at *
        go_wp2_with fail
        first | (go_region_with (first
          | (go_at_call 25
             with_reducible refine KU.out.mono ?_
             rintro e w5 ⟨rfl,hq5,p',c',w6,g1,g3,g4,g7,g5,g8,g9⟩
             have hX5:X < w5.heap.size:=by have:=D w5 _ hq5; simpa using this
             have HR6:=Qaa g1
             have HG5:=Qaa g5
             have HG8:=Qaa g8
             have HG9:=Qaa g9
             clear g1 g5 g8 g9)
          | (refine Qgb _ _ (V p5 n5 k5) (V (U ⟨w5.heap.size,0,Z⟩) 1 1) (V p' (n5+1) c') (w':=w6) (by rfl) (by rfl) (by with_reducible exact HR6.out) ?_))) | fail
        all_goals go_wp2_with fail
        all_goals exact ⟨⟨k+1,by omega,Qty (by omega),HG5,HG8,HG9⟩,by have:=HM4.out; simp [intOf]; omega⟩
      · have hkm:(Qcl d).take k=Qcl d:=List.take_of_length_le (by unfold Qcl; simp; have:=HM.out; omega)
        rw [hkm] at HBX
        obtain ⟨c0,c1,c2,f0,f1,f2⟩:=Qgt HBK.out
        have i1:¬ (((4 * k:Nat):Int) < (dn:Int)):=by have:=HM4.out; omega
        generalize 4 * k=k4 at *
        clear hkm
        go_wp2_with fail
        exact bodyPost_ret (v:=.agg #[I J 0,I J 0,V Z 0 0]) (by simp [results,Tryz.results47,go_sem,c0,c1,c2]) rfl ⟨rfl,by rw [Qcy HBK.out]; exact HBX.out,by rw [Qcy HBK.out]; exact HKP.out⟩
end
