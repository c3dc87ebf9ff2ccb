import Derived.Test.YtogbjeaceboemaaGreatDoorPA31
import Derived.Test.YtogbjeaceboemaaGreatDoorPA1
import Derived.Deep.RegionWith
import Derived.Deep.DrawnRows
import Derived.Deep.DeepCutAuto
namespace Go.Proofs.YtogbjeaceboemaaGreatDoor
open Go.RowKit
set_option maxRecDepth 100000
set_option linter.unusedVariables false
section
variable {P:Program}{a:Act}{w w':World}{K:Act→World→Prop}{Q:Exit→Act→World→Prop}{dst:Option Tmp}{ty:TypeId}{pos:String}{after:Array Edge}{gd:Option (Nat×Bool)}
theorem kept_appU (x y:Operand):Oper.wp P { dst:=dst,op:=.call { callee:=.builtin .append,args:=#[x,y],argTypes:=#[31,31] },type:=ty,pos:=pos,after:=after,guard:=gd } a w K Q=Kept P { dst:=dst,op:=.call { callee:=.builtin .append,args:=#[x,y],argTypes:=#[31,31] },type:=ty,pos:=pos,after:=after,guard:=gd } a w K Q:=rfl
theorem kept_appU_intro (x y:Operand)(p q v:Value)(hx:a.eval x=p)(hy:a.eval y=q)(hr:(Builtin.append_ #[31,31] ty #[p,q]).run P w=.ok v w')(h:K (a.put dst v) w') :
    Kept P { dst:=dst,op:=.call { callee:=.builtin .append,args:=#[x,y],argTypes:=#[31,31] },type:=ty,pos:=pos,after:=after,guard:=gd } a w K Q:=by
  unfold Kept Oper.wp execOp
  simp only [resolve,invoke,builtin,Sem.run_bind,Sem.run_pure,Result.andThen_ok,List.map_toArray,List.map_cons,List.map_nil,hx,hy,hr]
  exact h
end
theorem Box.more {w:World}{X B:Nat}{a:At}{p:Option Addr}{c:Nat} (nn:Nat) (h:Box w X B a) (hB:B≤w.heap.size) (hl:a.comms.length≤100000) (hv:w.cell? ⟨X,5,none⟩=some (.slice p a.comms.length c)) :
    ∃ p' c' w',(Builtin.append_ #[31,31] 31 #[.slice p a.comms.length c,.slice (some ⟨w.heap.size,0,none⟩) 1 1]).run Tryz.prog (w.alloc (.cells #[.int .u32 (nn:Int)] 24))=.ok (.slice p' (a.comms.length+1) c') w'∧Below B w w'∧w'.cell? ⟨X,5,none⟩=some (.slice p a.comms.length c)∧w'.frozen? ⟨X,5,none⟩=false∧Box (w'.setCell ⟨X,5,none⟩ (.slice p' (a.comms.length+1) c')) X B { a with comms:=a.comms++[nn] }∧∀ (N:Nat) cc t,w.heap[N]?=some (.cells cc t (0,0))→t≠24→w'.heap[N]?=w.heap[N]?:=by
  obtain ⟨p5,k5,q5,o5⟩:=h.c5
  rw [hv] at q5
  simp only [Option.some.injEq,Value.slice.injEq,true_and] at q5
  obtain ⟨rfl,rfl⟩:=q5
  obtain ⟨p1,k1,q1,o1⟩:=h.c1
  obtain ⟨p6,k6,q6,o6⟩:=h.c6
  have hb1:Below B w (w.alloc (.cells #[.int .u32 (nn:Int)] 24)):=(Below.refl _ _).alloc hB _
  have hbw:Below w.heap.size w (w.alloc (.cells #[.int .u32 (nn:Int)] 24)):=(Below.refl _ _).alloc (Nat.le_refl _) _
  have hoa:=o5.alloc (.cells #[.int .u32 (nn:Int)] 24)
  obtain ⟨v',w',hr,h2,h3,h4,_⟩:=app_more elemU32 (w:=w.alloc (.cells #[.int .u32 (nn:Int)] 24)) hoa (by simp; omega) ⟨w.heap.size,0,none⟩ 1 1 [.int .u32 (nn:Int)] rfl (fun j x hx=>by
    rw [Addr.add_mid,Nat.zero_add,World.cell?_alloc_mark]
    simpa using hx) (by intro x hx; simp at hx; subst hx; rfl) (by omega)
  obtain ⟨p',c',e'⟩:=own_shape h2
  subst e'
  have hB2:=h.lt
  have hbb:Below B w w':=hb1.trans h3
  have eX:∀ j,w'.cell? ⟨X,j,none⟩=w.cell? ⟨X,j,none⟩:=fun j=>hbb.cell (p:=⟨X,j,none⟩) hB2
  have fX:∀ j,w'.frozen? ⟨X,j,none⟩=false:=fun j=>by rw [hbb.frozen (p:=⟨X,j,none⟩) hB2]; exact h.fz j
  have oP:OwnPath w' B (.slice p1 a.path.length k1) a.path:=(o1.later hbw).grown hoa h4 (by decide) (by decide)
  have oR:OwnRaws w' B (.slice p6 a.raws.length k6) a.raws:=by
    obtain ⟨cs,ho,hc⟩:=o6.later hbw
    refine ⟨cs,own_grown ho h4 (fun k hk=>own_apart ho hoa (by decide) k hk),fun i r hi=>?_⟩
    obtain ⟨z1,z2,u,z3,z4⟩:=hc i r hi
    exact ⟨z1,z2,u,z3,own_grown z4 h4 (fun k hk=>own_apart z4 hoa (by decide) k hk)⟩
  have oC:w'.ownsRow B 24 1 (.slice p' (a.comms.length+1) c') (a.comms++[nn]).length (ucells (a.comms++[nn])):=by
    rw [List.length_append,ucells_app]
    exact h2
  have key:∀ (j:Nat) (v:Value),j≠5→w.cell? ⟨X,j,none⟩=some v→(w'.setCell ⟨X,5,none⟩ (.slice p' (a.comms.length+1) c')).cell? ⟨X,j,none⟩=some v:=fun j v hj hv9=>by
    rw [World.cell?_setCell_other _ _ _ _ (by intro e9; injection e9 with _ e2 _; exact hj e2.symm),eX]
    exact hv9
  refine ⟨p',c',w',hr,hbb,by rw [eX]; exact hv,fX 5,?_,fun N cc t hN ht=>?_⟩
  · exact ⟨key 0 _ (by omega) h.c0,⟨p1,k1,key 1 _ (by omega) q1,oP.under hB2 _ _⟩,key 2 _ (by omega) h.c2,key 3 _ (by omega) h.c3,key 4 _ (by omega) h.c4,⟨p',c',by
      rw [List.length_append]
      exact World.cell?_setCell_same _ _ _ (by rw [eX]; exact hv),by
      rw [List.length_append]
      have h9:=own_under oC hB2 5 (.slice p' (a.comms.length+1) c')
      rw [List.length_append] at h9
      exact h9⟩,⟨p6,k6,key 6 _ (by omega) q6,oR.under hB2 _ _⟩,fun j=>by rw [World.frozen?_setCell]; exact fX j,hB2⟩
  · have hlt:=(Array.getElem?_eq_some_iff.1 hN).1
    rw [h4.block N (by simp; omega) (fun e=>?_),heap_alloc_old _ _ hlt]
    rcases hoa.2 with ⟨e1,_⟩ | ⟨g',cap,cur,e1,_,hc,_⟩
    · rw [e1] at e; cases e
    · rw [e1] at e
      cases e
      rw [heap_alloc_old _ _ hlt,hN] at hc
      simp only [Option.some.injEq,Obj.cells.injEq] at hc
      exact ht hc.2.1
theorem numsL_get (d:List Nat)(k:Nat)(h:k < d.length / 4):(numsL d)[k]?=some (num (fun q=>d.getD (4 * k+q) 0)):=by
  unfold numsL
  simp [h]
theorem numsL_take (d:List Nat)(k:Nat)(h:k < d.length / 4):(numsL d).take (k+1)=(numsL d).take k++[num (fun q=>d.getD (4 * k+q) 0)]:=by
  have hl:k < (numsL d).length:=by unfold numsL; simpa using h
  rw [List.take_succ_eq_append_getElem hl]
  have h1:=numsL_get d k h
  rw [List.getElem?_eq_getElem hl] at h1
  rw [Option.some.inj h1]
theorem num4_lt (d:List Nat)(hd:∀ x∈d,x < 256)(k:Nat):num (fun q=>d.getD (4 * k+q) 0) < 4294967296:=by
  have h0:=byte_lt hd (4 * k+0)
  have h1:=byte_lt hd (4 * k+1)
  have h2:=byte_lt hd (4 * k+2)
  have h3:=byte_lt hd (4 * k+3)
  unfold num
  simp only
  omega
set_option maxHeartbeats 3200000 in
theorem kn_no8 (fl:Nat)(X B:Nat)(a:At)(da:Option Addr)(dn dc:Nat)(la:Option Addr)(ln lc:Nat)(d all:List Nat)(w:World)(hf:fl < 256)(hX:Box w X B a)(hB:B≤w.heap.size)(hdn:d.length=dn)(hdc:dn≤dc)(hrd:BRd w da d)(hl:all.length=ln)(hln:ln≤60000)(hr:BRd w la all)(h1:((fl:Int) / 64 * 64 != 192)=false)(q:Bool)(h2:((fl:Int) / 32 % 2 == 1)=q)(h3:((dn:Int) == 0)=false)(h4:((dn:Int) % 4 != 0)=false)(h5:(128:Int) < (dn:Int)) :
    Calls Tryz.prog 50 #[.pointer (some ⟨X,0,none⟩),.int .i64 (fl:Int),.int .i64 8,.slice da dn dc,.slice la ln lc] w fun e w'=>∃ a9 c9,e=.returned (.agg #[.int .i64 3,.int .i64 9,.slice a9 ln c9])∧w'.ownsRow w.heap.size 5 1 (.slice a9 ln c9) ln (bcells all)∧Keeps (NotBox X B) w w':=by
  have KN:=hide (note_any 3 9 la lc all (knW w) (by omega) (hr.below (knW_below w)))
  rw [hl] at KN
  clear hr hl
  have hXl:=hX.pos
  have hXB:=hX.lt
  have HX:=hide (hX.later (knW_below w))
  have HD:=hide (hrd.below (knW_below w))
  have HDN:=hide hdn
  have hks:=knW_size w
  have hXN:X < (knW w).heap.size:=by omega
  have HBK0:=hide (knW_block w)
  clear hX hrd hks hdn hXB
  cases q
  · go_enter Tryz.func50,Tryz.ntmps50
    go_upto_if 38 with fail
    have hk:((w.alloc (.cells #[.int .i64 0,.int .i64 0,.slice none 0 0] 38)).alloc (.cells #[.int .i64 0,.int .i64 64,.int .i64 64,.int .i64 64,.int .i64 128,.int .i64 64,.int .i64 64,.int .i64 192,.int .i64 192] 3)).alloc (.cells #[.int .i64 0,.int .i64 1,.int .i64 (-1),.int .i64 4,.int .i64 4,.int .i64 4,.int .i64 0,.int .i64 8,.int .i64 (-1)] 3)=knW w:=rfl
    rw [hk]
    clear hk
    go_wp2_with fail
    refine KN.out.mono ?_
    rintro e w4 ⟨a9,c9,rfl,ho4,hb4⟩
    have HO4:=hide ho4
    have HBK:=hide (nb_block hb4)
    have HKP:Hid (Keeps (NotBox X B) w w4):=keeps_box ((knW_below w).trans (hb4.mono (knW_below w).size))
    have hz:w.heap.size < (knW w).heap.size:=by rw [knW_size]; omega
    have HZ:=hide hz
    clear ho4 hb4 hz
    obtain ⟨c0,c1,c2,f0,f1,f2⟩:=nb_of HBK.out
    go_wp2_with fail
    exact bodyPost_ret (v:=.agg #[.int .i64 3,.int .i64 9,.slice a9 ln c9]) (by simp [results,Tryz.results50,go_sem,c0,c1,c2]) rfl ⟨a9,c9,rfl,own_base (own_under (own_under (own_under HO4.out HZ.out _ _) HZ.out _ _) HZ.out _ _) (Nat.le_of_lt HZ.out),((HKP.out.setCell w.heap.size 0 _ (.inr (Nat.le_refl _))).setCell w.heap.size 1 _ (.inr (Nat.le_refl _))).setCell w.heap.size 2 _ (.inr (Nat.le_refl _))⟩
  · go_enter Tryz.func50,Tryz.ntmps50
    go_upto_if 38 with fail
    have hk:((w.alloc (.cells #[.int .i64 0,.int .i64 0,.slice none 0 0] 38)).alloc (.cells #[.int .i64 0,.int .i64 64,.int .i64 64,.int .i64 64,.int .i64 128,.int .i64 64,.int .i64 64,.int .i64 192,.int .i64 192] 3)).alloc (.cells #[.int .i64 0,.int .i64 1,.int .i64 (-1),.int .i64 4,.int .i64 4,.int .i64 4,.int .i64 0,.int .i64 8,.int .i64 (-1)] 3)=knW w:=rfl
    rw [hk]
    clear hk
    go_wp2_with fail
    refine KN.out.mono ?_
    rintro e w4 ⟨a9,c9,rfl,ho4,hb4⟩
    have HO4:=hide ho4
    have HBK:=hide (nb_block hb4)
    have HKP:Hid (Keeps (NotBox X B) w w4):=keeps_box ((knW_below w).trans (hb4.mono (knW_below w).size))
    have hz:w.heap.size < (knW w).heap.size:=by rw [knW_size]; omega
    have HZ:=hide hz
    clear ho4 hb4 hz
    obtain ⟨c0,c1,c2,f0,f1,f2⟩:=nb_of HBK.out
    go_wp2_with fail
    exact bodyPost_ret (v:=.agg #[.int .i64 3,.int .i64 9,.slice a9 ln c9]) (by simp [results,Tryz.results50,go_sem,c0,c1,c2]) rfl ⟨a9,c9,rfl,own_base (own_under (own_under (own_under HO4.out HZ.out _ _) HZ.out _ _) HZ.out _ _) (Nat.le_of_lt HZ.out),((HKP.out.setCell w.heap.size 0 _ (.inr (Nat.le_refl _))).setCell w.heap.size 1 _ (.inr (Nat.le_refl _))).setCell w.heap.size 2 _ (.inr (Nat.le_refl _))⟩
section
attribute [local go_sem ↓] Go.wp_at_zero Go.wp_at_succ kept_appU
set_option maxHeartbeats 6400000 in
theorem kn_ok8 (fl:Nat)(X B:Nat)(a:At)(da:Option Addr)(dn dc:Nat)(la:Option Addr)(ln lc:Nat)(d all:List Nat)(w:World)(hf:fl < 256)(hX:Box w X B a)(hB:B≤w.heap.size)(hdn:d.length=dn)(hdc:dn≤dc)(hrd:BRd w da d)(h1:((fl:Int) / 64 * 64 != 192)=false)(q:Bool)(h2:((fl:Int) / 32 % 2 == 1)=q)(hdX:∀ x,da=some x→0 < dn→x.block < X)(hcl:a.comms.length≤5000)(h3:((dn:Int) == 0)=false)(h4:((dn:Int) % 4 != 0)=false)(h5:dn≤128) :
    Calls Tryz.prog 50 #[.pointer (some ⟨X,0,none⟩),.int .i64 (fl:Int),.int .i64 8,.slice da dn dc,.slice la ln lc] w fun e w'=>e=.returned (.agg #[.int .i64 0,.int .i64 0,.slice none 0 0])∧Box w' X B ({ a with comms:=a.comms++numsL d })∧Keeps (NotBox X B) w w':=by
  have hXl:=hX.pos
  have hXB:=hX.lt
  have HX:=hide (hX.later (knW_below w))
  have HD:=hide (hrd.below (knW_below w))
  have HDN:=hide hdn
  have hks:=knW_size w
  have hXN:X < (knW w).heap.size:=by omega
  have HBK0:=hide (knW_block w)
  have h3n:dn≠0:=fun e=>by rw [e] at h3; simp at h3
  have h4n:(dn:Int) % 4=0:=by simpa using h4
  obtain ⟨b,o,rfl,hc⟩:=HD.out.1.2 (by rw [hdn]; omega)
  have hbX:b < X:=hdX _ rfl (by omega)
  obtain ⟨m,hm⟩:∃ m,m=dn / 4:=⟨_,rfl⟩
  have hm4:dn=4 * m:=by omega
  have HM:Hid (d.length / 4=m):=by show _=_; rw [hdn,hm]
  have hbl:b < w.heap.size:=by omega
  have HCW:Hid (∀ i,i < dn→w.cell? ⟨b,o+i,none⟩=some (.int .u8 (d.getD i 0:Int))):=fun i hi=>by
    have h9:=hc i (by rw [hdn]; exact hi)
    rw [(knW_below w).cell (p:=⟨b,o+i,none⟩) hbl] at h9
    exact h9
  have h5':decide ((128:Int) < (dn:Int))=false:=decide_eq_false (by omega)
  have HCL:=hide hcl
  have HB0:=hide hB
  have HXB:=hide hXB
  have HM4:=hide hm4
  clear hX hrd hc hdn hdX hm h4n hm4
  cases q
  · go_enter Tryz.func50,Tryz.ntmps50
    go_upto_if 38 with fail
    have hk:((w.alloc (.cells #[.int .i64 0,.int .i64 0,.slice none 0 0] 38)).alloc (.cells #[.int .i64 0,.int .i64 64,.int .i64 64,.int .i64 64,.int .i64 128,.int .i64 64,.int .i64 64,.int .i64 192,.int .i64 192] 3)).alloc (.cells #[.int .i64 0,.int .i64 1,.int .i64 (-1),.int .i64 4,.int .i64 4,.int .i64 4,.int .i64 0,.int .i64 8,.int .i64 (-1)] 3)=knW w:=rfl
    rw [hk]
    clear hk
    go_wp2_with fail
    go_loopw [15] (fun i wq=>∃ k:Nat,k≤m∧i=.int .i64 ((4 * k:Nat):Int)∧Hid (Box wq X B { a with comms:=a.comms++(numsL d).take k })∧Hid (wq.heap[w.heap.size]?=some (.cells #[.int .i64 0,.int .i64 0,.slice none 0 0] 38 (0,0)))∧Hid (Keeps (NotBox X B) w wq)) (fun i _=>dn - (intOf i).toNat)
    case atStart=>exact ⟨0,Nat.zero_le _,rfl,by show Box _ _ _ _; rw [List.take_zero,List.append_nil]; exact HX.out,HBK0,keeps_box (knW_below w)⟩
    case round =>
      obtain ⟨k,hk,rfl,HBX,HBK,HKP⟩:=hrel
      by_cases hlt:k < m
      · have hm4:=HM4.out
        have HTK:=hide (numsL_take d k (by rw [HM.out]; exact hlt))
        have hn2:=num4_lt d HD.out.2 k
        have hln:(a.comms++(numsL d).take k).length≤10000:=by rw [List.length_append,List.length_take]; have:=HCL.out; omega
        obtain ⟨p5,k5,q5,_⟩:=HBX.out.c5
        have hN4:w.heap.size < wr.heap.size:=(Array.getElem?_eq_some_iff.1 HBK.out).1
        have hBr:B≤wr.heap.size:=by have:=HB0.out; omega
        have KU:Hid (Calls Tryz.prog 29 #[.slice (some ⟨b,o+4 * k,none⟩) (dn - 4 * k) (dc - 4 * k)] wr.drew fun e w5=>e=.returned (.int .i64 (num (fun q=>d.getD (4 * k+q) 0):Int))∧w5.cell? ⟨X,5,none⟩=some (.slice p5 (a.comms++(numsL d).take k).length k5) ∧
            ∃ p' c' w6,(Builtin.append_ #[31,31] 31 #[.slice p5 (a.comms++(numsL d).take k).length k5,.slice (some ⟨w5.heap.size,0,none⟩) 1 1]).run Tryz.prog (w5.alloc (.cells #[.int .u32 (num (fun q=>d.getD (4 * k+q) 0):Int)] 24))=.ok (.slice p' ((a.comms++(numsL d).take k).length+1) c') w6∧w6.cell? ⟨X,5,none⟩=some (.slice p5 (a.comms++(numsL d).take k).length k5)∧w6.frozen? ⟨X,5,none⟩=false∧X < w6.heap.size∧Box (w6.setCell ⟨X,5,none⟩ (.slice p' ((a.comms++(numsL d).take k).length+1) c')) X B { a with comms:=a.comms++(numsL d).take (k+1) }∧(w6.setCell ⟨X,5,none⟩ (.slice p' ((a.comms++(numsL d).take k).length+1) c')).heap[w.heap.size]?=some (.cells #[.int .i64 0,.int .i64 0,.slice none 0 0] 38 (0,0))∧Keeps (NotBox X B) w (w6.setCell ⟨X,5,none⟩ (.slice p' ((a.comms++(numsL d).take k).length+1) c'))):=by
          refine (num_eq b (o+4 * k) (dn - 4 * k) (dc - 4 * k) (fun q=>d.getD (4 * k+q) 0) wr.drew (by omega) (fun i _=>byte_lt HD.out.2 _) (fun i hi=>?_)).mono fun e w5 h=>?_
          · have h9:=HCW.out (4 * k+i) (by omega)
            rw [World.cell?_drew,HKP.out.cell ⟨b,o+4 * k+i,none⟩ hbl (by show ¬ (b=X∨B≤b); have:=HXB.out; omega),Nat.add_assoc]
            exact h9
          · obtain ⟨he,kk,hkk⟩:=h
            have hb5:Below wr.heap.size wr w5:=by rw [hkk]; exact below_drewN (Below.refl _ _).drew kk
            have hX5:=HBX.out.later hb5
            have q5':w5.cell? ⟨X,5,none⟩=some (.slice p5 (a.comms++(numsL d).take k).length k5):=by rw [hb5.cell (p:=⟨X,5,none⟩) HBX.out.pos]; exact q5
            refine ⟨he,q5',?_⟩
            obtain ⟨p',c',w6,g1,g2,g3,g4,g5,g6⟩:=Box.more (num (fun q=>d.getD (4 * k+q) 0)) hX5 (by have:=hb5.size; omega) (by show (a.comms++(numsL d).take k).length≤100000; omega) q5'
            have hN5:w5.heap[w.heap.size]?=some (.cells #[.int .i64 0,.int .i64 0,.slice none 0 0] 38 (0,0)):=by rw [hb5.block _ hN4]; exact HBK.out
            have hN6:w6.heap[w.heap.size]?=some (.cells #[.int .i64 0,.int .i64 0,.slice none 0 0] 38 (0,0)):=by rw [g6 _ _ _ hN5 (by decide)]; exact hN5
            refine ⟨p',c',w6,g1,g3,g4,?_,?_,?_,?_⟩
            · have:=World.block_lt_of_cell? w6 _ g3; simpa using this
            · rw [HTK.out,← List.append_assoc]; exact g5
            · rw [heap_setCell _ _ _ _ _ (by have:=HXB.out; have:=HB0.out; omega)]; exact hN6
            · exact (keeps_low (HKP.out.trans (keeps_box hb5) (fun b _ h=>h)) g2).setCell X 5 _ (.inl (.inl rfl))
        have i1:((4 * k:Nat):Int) < (dn:Int):=by omega
        have i2:((4 * k:Nat):Int)≤(dn:Int):=by omega
        have i3:(0:Int)≤((4 * k:Nat):Int):=Int.natCast_nonneg _
        have i4:(dn:Int)≤(dc:Int):=by omega
        have i5:¬ dc=4 * k:=by omega
        have hXw:=HBX.out.pos
        have HDQ:Hid (wr.drew.cell? ⟨X,5,none⟩=some (.slice p5 (a.comms++(numsL d).take k).length k5)):=by show _=_; rw [World.cell?_drew]; exact q5
        generalize num (fun q=>d.getD (4 * k+q) 0)=nn at *
        generalize (a.comms++(numsL d).take k).length=n5 at *
        clear hN4 HTK HBX HBK HKP hm4
        have hwn:IntKind.u32.wrap (nn:Int)=(nn:Int):=by rw [IntKind.wrap_u32]; omega
        generalize hkf:4 * k=k4 at *
        go_wp2_with fail
        first | (go_region_with (first
          | (go_at_call 29
             with_reducible refine KU.out.mono ?_
             rintro e w5 ⟨rfl,hq5,p',c',w6,g1,g3,g4,g7,g5,g8,g9⟩
             have hX5:X < w5.heap.size:=by have:=World.block_lt_of_cell? w5 _ hq5; simpa using this
             have HR6:=hide g1
             have HG5:=hide g5
             have HG8:=hide g8
             have HG9:=hide g9
             clear g1 g5 g8 g9)
          | (refine kept_appU_intro _ _ (.slice p5 n5 k5) (.slice (some ⟨w5.heap.size,0,none⟩) 1 1) (.slice p' (n5+1) c') (w':=w6) (by rfl) (by rfl) (by with_reducible exact HR6.out) ?_))) | fail
        all_goals go_wp2_with fail
        all_goals exact ⟨⟨k+1,by omega,int_eq (by omega),HG5,HG8,HG9⟩,by have:=HM4.out; simp [intOf]; omega⟩
      · have hkm:(numsL d).take k=numsL d:=List.take_of_length_le (by unfold numsL; simp; have:=HM.out; omega)
        rw [hkm] at HBX
        obtain ⟨c0,c1,c2,f0,f1,f2⟩:=nb_of HBK.out
        have i1:¬ (((4 * k:Nat):Int) < (dn:Int)):=by have:=HM4.out; omega
        generalize 4 * k=k4 at *
        clear hkm
        go_wp2_with fail
        exact bodyPost_ret (v:=.agg #[.int .i64 0,.int .i64 0,.slice none 0 0]) (by simp [results,Tryz.results50,go_sem,c0,c1,c2]) rfl ⟨rfl,by rw [nb_zero HBK.out]; exact HBX.out,by rw [nb_zero HBK.out]; exact HKP.out⟩
  · go_enter Tryz.func50,Tryz.ntmps50
    go_upto_if 38 with fail
    have hk:((w.alloc (.cells #[.int .i64 0,.int .i64 0,.slice none 0 0] 38)).alloc (.cells #[.int .i64 0,.int .i64 64,.int .i64 64,.int .i64 64,.int .i64 128,.int .i64 64,.int .i64 64,.int .i64 192,.int .i64 192] 3)).alloc (.cells #[.int .i64 0,.int .i64 1,.int .i64 (-1),.int .i64 4,.int .i64 4,.int .i64 4,.int .i64 0,.int .i64 8,.int .i64 (-1)] 3)=knW w:=rfl
    rw [hk]
    clear hk
    go_wp2_with fail
    go_loopw [15] (fun i wq=>∃ k:Nat,k≤m∧i=.int .i64 ((4 * k:Nat):Int)∧Hid (Box wq X B { a with comms:=a.comms++(numsL d).take k })∧Hid (wq.heap[w.heap.size]?=some (.cells #[.int .i64 0,.int .i64 0,.slice none 0 0] 38 (0,0)))∧Hid (Keeps (NotBox X B) w wq)) (fun i _=>dn - (intOf i).toNat)
    case atStart=>exact ⟨0,Nat.zero_le _,rfl,by show Box _ _ _ _; rw [List.take_zero,List.append_nil]; exact HX.out,HBK0,keeps_box (knW_below w)⟩
    case round =>
      obtain ⟨k,hk,rfl,HBX,HBK,HKP⟩:=hrel
      by_cases hlt:k < m
      · have hm4:=HM4.out
        have HTK:=hide (numsL_take d k (by rw [HM.out]; exact hlt))
        have hn2:=num4_lt d HD.out.2 k
        have hln:(a.comms++(numsL d).take k).length≤10000:=by rw [List.length_append,List.length_take]; have:=HCL.out; omega
        obtain ⟨p5,k5,q5,_⟩:=HBX.out.c5
        have hN4:w.heap.size < wr.heap.size:=(Array.getElem?_eq_some_iff.1 HBK.out).1
        have hBr:B≤wr.heap.size:=by have:=HB0.out; omega
        have KU:Hid (Calls Tryz.prog 29 #[.slice (some ⟨b,o+4 * k,none⟩) (dn - 4 * k) (dc - 4 * k)] wr.drew fun e w5=>e=.returned (.int .i64 (num (fun q=>d.getD (4 * k+q) 0):Int))∧w5.cell? ⟨X,5,none⟩=some (.slice p5 (a.comms++(numsL d).take k).length k5) ∧
            ∃ p' c' w6,(Builtin.append_ #[31,31] 31 #[.slice p5 (a.comms++(numsL d).take k).length k5,.slice (some ⟨w5.heap.size,0,none⟩) 1 1]).run Tryz.prog (w5.alloc (.cells #[.int .u32 (num (fun q=>d.getD (4 * k+q) 0):Int)] 24))=.ok (.slice p' ((a.comms++(numsL d).take k).length+1) c') w6∧w6.cell? ⟨X,5,none⟩=some (.slice p5 (a.comms++(numsL d).take k).length k5)∧w6.frozen? ⟨X,5,none⟩=false∧X < w6.heap.size∧Box (w6.setCell ⟨X,5,none⟩ (.slice p' ((a.comms++(numsL d).take k).length+1) c')) X B { a with comms:=a.comms++(numsL d).take (k+1) }∧(w6.setCell ⟨X,5,none⟩ (.slice p' ((a.comms++(numsL d).take k).length+1) c')).heap[w.heap.size]?=some (.cells #[.int .i64 0,.int .i64 0,.slice none 0 0] 38 (0,0))∧Keeps (NotBox X B) w (w6.setCell ⟨X,5,none⟩ (.slice p' ((a.comms++(numsL d).take k).length+1) c'))):=by
          refine (num_eq b (o+4 * k) (dn - 4 * k) (dc - 4 * k) (fun q=>d.getD (4 * k+q) 0) wr.drew (by omega) (fun i _=>byte_lt HD.out.2 _) (fun i hi=>?_)).mono fun e w5 h=>?_
          · have h9:=HCW.out (4 * k+i) (by omega)
            rw [World.cell?_drew,HKP.out.cell ⟨b,o+4 * k+i,none⟩ hbl (by show ¬ (b=X∨B≤b); have:=HXB.out; omega),Nat.add_assoc]
            exact h9
          · obtain ⟨he,kk,hkk⟩:=h
            have hb5:Below wr.heap.size wr w5:=by rw [hkk]; exact below_drewN (Below.refl _ _).drew kk
            have hX5:=HBX.out.later hb5
            have q5':w5.cell? ⟨X,5,none⟩=some (.slice p5 (a.comms++(numsL d).take k).length k5):=by rw [hb5.cell (p:=⟨X,5,none⟩) HBX.out.pos]; exact q5
            refine ⟨he,q5',?_⟩
            obtain ⟨p',c',w6,g1,g2,g3,g4,g5,g6⟩:=Box.more (num (fun q=>d.getD (4 * k+q) 0)) hX5 (by have:=hb5.size; omega) (by show (a.comms++(numsL d).take k).length≤100000; omega) q5'
            have hN5:w5.heap[w.heap.size]?=some (.cells #[.int .i64 0,.int .i64 0,.slice none 0 0] 38 (0,0)):=by rw [hb5.block _ hN4]; exact HBK.out
            have hN6:w6.heap[w.heap.size]?=some (.cells #[.int .i64 0,.int .i64 0,.slice none 0 0] 38 (0,0)):=by rw [g6 _ _ _ hN5 (by decide)]; exact hN5
            refine ⟨p',c',w6,g1,g3,g4,?_,?_,?_,?_⟩
            · have:=World.block_lt_of_cell? w6 _ g3; simpa using this
            · rw [HTK.out,← List.append_assoc]; exact g5
            · rw [heap_setCell _ _ _ _ _ (by have:=HXB.out; have:=HB0.out; omega)]; exact hN6
            · exact (keeps_low (HKP.out.trans (keeps_box hb5) (fun b _ h=>h)) g2).setCell X 5 _ (.inl (.inl rfl))
        have i1:((4 * k:Nat):Int) < (dn:Int):=by omega
        have i2:((4 * k:Nat):Int)≤(dn:Int):=by omega
        have i3:(0:Int)≤((4 * k:Nat):Int):=Int.natCast_nonneg _
        have i4:(dn:Int)≤(dc:Int):=by omega
        have i5:¬ dc=4 * k:=by omega
        have hXw:=HBX.out.pos
        have HDQ:Hid (wr.drew.cell? ⟨X,5,none⟩=some (.slice p5 (a.comms++(numsL d).take k).length k5)):=by show _=_; rw [World.cell?_drew]; exact q5
        generalize num (fun q=>d.getD (4 * k+q) 0)=nn at *
        generalize (a.comms++(numsL d).take k).length=n5 at *
        clear hN4 HTK HBX HBK HKP hm4
        have hwn:IntKind.u32.wrap (nn:Int)=(nn:Int):=by rw [IntKind.wrap_u32]; omega
        generalize hkf:4 * k=k4 at *
        go_wp2_with fail
        first | (go_region_with (first
          | (go_at_call 29
             with_reducible refine KU.out.mono ?_
             rintro e w5 ⟨rfl,hq5,p',c',w6,g1,g3,g4,g7,g5,g8,g9⟩
             have hX5:X < w5.heap.size:=by have:=World.block_lt_of_cell? w5 _ hq5; simpa using this
             have HR6:=hide g1
             have HG5:=hide g5
             have HG8:=hide g8
             have HG9:=hide g9
             clear g1 g5 g8 g9)
          | (refine kept_appU_intro _ _ (.slice p5 n5 k5) (.slice (some ⟨w5.heap.size,0,none⟩) 1 1) (.slice p' (n5+1) c') (w':=w6) (by rfl) (by rfl) (by with_reducible exact HR6.out) ?_))) | fail
        all_goals go_wp2_with fail
        all_goals exact ⟨⟨k+1,by omega,int_eq (by omega),HG5,HG8,HG9⟩,by have:=HM4.out; simp [intOf]; omega⟩
      · have hkm:(numsL d).take k=numsL d:=List.take_of_length_le (by unfold numsL; simp; have:=HM.out; omega)
        rw [hkm] at HBX
        obtain ⟨c0,c1,c2,f0,f1,f2⟩:=nb_of HBK.out
        have i1:¬ (((4 * k:Nat):Int) < (dn:Int)):=by have:=HM4.out; omega
        generalize 4 * k=k4 at *
        clear hkm
        go_wp2_with fail
        exact bodyPost_ret (v:=.agg #[.int .i64 0,.int .i64 0,.slice none 0 0]) (by simp [results,Tryz.results50,go_sem,c0,c1,c2]) rfl ⟨rfl,by rw [nb_zero HBK.out]; exact HBX.out,by rw [nb_zero HBK.out]; exact HKP.out⟩
end
end Go.Proofs.YtogbjeaceboemaaGreatDoor
