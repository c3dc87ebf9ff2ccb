import Derived.Test.YtogbjeaceboemaaGreatDoorPA0
import Derived.Test.YtogbjeaceboemaaGreatDoorPA2
import Derived.Test.YtogbjeaceboemaaGreatDoorPA1
import Derived.Deep.RegionWith
import Derived.Deep.DrawnRows
import Derived.Laws.BitsAllLaws
namespace Go.Proofs.YtogbjeaceboemaaGreatDoor
open Go.RowKit
set_option maxRecDepth 100000
theorem Tryz.infoSeg:(Tryz.prog.info? 136).map (fun i=>(i.zero,i.size,i.bytes))=some (some (.agg #[.bool false,.slice none 0 0]),2,32):=by kernel_rfl
theorem elemSeg:Elem 30 136 2 32:=by
 obtain ⟨i,h1,h2,h3,h4⟩:=info_parts Tryz.infoSeg
 exact ⟨Tryz.underlying30,⟨i,_,h1,h2,h3,h4,rfl⟩,by omega,by omega⟩
def OwnPath (w:World)(B:Nat)(v:Value)(ss:List (Bool×List Int)):Prop :=
 ∃ cs,w.ownsRow B 136 2 v ss.length cs∧∀ i s,ss[i]?=some s→cs[i * 2]?=some (.bool s.1)∧∃ u,cs[i * 2+1]?=some u∧w.ownsRow B 3 1 u s.2.length (icells s.2)
theorem OwnPath.later {w w':World}{B:Nat}{v:Value}{ss:List (Bool×List Int)} (h:OwnPath w B v ss) (hb:Below w.heap.size w w'):OwnPath w' B v ss:=by
 obtain ⟨cs,ho,hc⟩:=h
 refine ⟨cs,own_later ho hb,fun i s hi=>?_⟩
 obtain ⟨h1,u,h2,h3⟩:=hc i s hi
 exact ⟨h1,u,h2,own_later h3 hb⟩
theorem OwnPath.nil (w:World)(B:Nat):OwnPath w B (.slice none 0 0) []:=⟨[],own_nil _ _ _ _,fun i s h=>by simp at h⟩
theorem own_ird {w:World}{B:Nat}{u:Value}{zs:List Int} (h:w.ownsRow B 3 1 u zs.length (icells zs)):∃ a c,u=.slice a zs.length c∧IRd w a zs:=by
 have hh:=h
 rcases h.2 with ⟨rfl,h0⟩ | ⟨g,cap,cur,rfl,_⟩
 ·exact ⟨none,0,by rw [h0],fun hp=>absurd hp (by omega)⟩
 ·refine ⟨_,_,rfl,fun _=>⟨g,0,rfl,fun j z hj=>?_⟩⟩
  have hjl:=(List.getElem?_eq_some_iff.1 hj).1
  rw [Nat.zero_add,hh.cellAt j (by omega)]
  exact icells_get zs j z hj
theorem OwnPath.rd {w:World}{B:Nat}{v:Value}{ss:List (Bool×List Int)} (h:OwnPath w B v ss) (hl:ss.length≤1000000) (hs:∀ s∈ss,s.2.length≤1000000):∃ a c,v=.slice a ss.length c∧PthRd w a ss:=by
 obtain ⟨cs,ho,hc⟩:=h
 have hh:=ho
 rcases ho.2 with ⟨rfl,h0⟩ | ⟨g,cap,cur,rfl,_⟩
 ·exact ⟨none,0,by rw [h0],⟨fun hp=>absurd hp (by omega),by unfold maxLen; omega,fun s hm=>by have:=hs s hm; unfold maxLen; omega⟩⟩
 ·refine ⟨_,_,rfl,⟨fun _=>⟨g,0,rfl,fun i s hi=>?_⟩,by unfold maxLen; omega,fun s hm=>by have:=hs s hm; unfold maxLen; omega⟩⟩
  have hil:=(List.getElem?_eq_some_iff.1 hi).1
  obtain ⟨h1,u,h2,h3⟩:=hc i s hi
  obtain ⟨a',c',rfl,h4⟩:=own_ird h3
  rw [Nat.zero_add,hh.cellAt (i * 2) (by omega),hh.cellAt (i * 2+1) (by omega)]
  exact ⟨h1,a',c',h2,h4⟩
theorem OwnPath.snoc {w:World}{B:Nat}{v u:Value}{ss:List (Bool×List Int)}{b:Bool}{zs:List Int} (h:OwnPath w B v ss) (hu:w.ownsRow B 3 1 u zs.length (icells zs)) (hone:u.oneCell'=true) (hB:B≤w.heap.size) (hl:ss.length≤100000) (H:Nat) (hH:w.heap.size=H) :
  ∃ v' w',(Builtin.append_ #[30,30] 30 #[v,.slice (some ⟨H,0,none⟩) 1 1]).run Tryz.prog (w.alloc (.cells #[.bool b,u] 136))=.ok v' w'∧OwnPath w' B v' (ss++[(b,zs)])∧Below B w w':=by
 subst hH
 obtain ⟨cs,ho,hc⟩:=h
 have hb1:Below B w (w.alloc (.cells #[.bool b,u] 136)):=(Below.refl _ _).alloc hB _
 have hbw:Below w.heap.size w (w.alloc (.cells #[.bool b,u] 136)):=(Below.refl _ _).alloc (Nat.le_refl _) _
 obtain ⟨v',w',hr,h2,h3,h4,_⟩:=app_more elemSeg (w:=w.alloc (.cells #[.bool b,u] 136)) (ho.alloc _) (by simp; omega) ⟨w.heap.size,0,none⟩ 1 1 [.bool b,u] rfl (fun j x hx=>by
  rw [Addr.add_mid,Nat.zero_add,World.cell?_alloc_mark]
  simpa using hx) (by intro x hx; simp at hx; rcases hx with rfl | rfl; rfl; exact hone) (by omega)
 have hap:∀ (x:Value) (ys:List Int),w.ownsRow B 3 1 x ys.length (icells ys)→w'.ownsRow B 3 1 x ys.length (icells ys):=fun x ys hx =>
  own_grown (own_later hx hbw) h4 (fun k hk=>own_apart hx ho (by decide) k hk)
 refine ⟨v',w',hr,⟨_,by rw [List.length_append]; exact h2,fun i s hi=>?_⟩,hb1.trans h3⟩
 have hcl:cs.length=ss.length * 2:=ho.1
 by_cases hlt:i < ss.length
 ·rw [List.getElem?_append_left hlt] at hi
  obtain ⟨g1,x,g2,g3⟩:=hc i s hi
  exact ⟨by rw [List.getElem?_append_left (by omega)]; exact g1,x,by rw [List.getElem?_append_left (by omega)]; exact g2,hap x _ g3⟩
 ·rw [List.getElem?_append_right (by omega)] at hi
  have hi0:i - ss.length=0:=by
   have:=(List.getElem?_eq_some_iff.1 hi).1
   simpa using this
  rw [hi0] at hi
  simp at hi
  subst hi
  have e1:i=ss.length:=by omega
  subst e1
  refine ⟨by rw [List.getElem?_append_right (by omega),hcl,Nat.sub_self]; rfl,u,by rw [List.getElem?_append_right (by omega),show ss.length * 2+1 - cs.length=1 from by omega]; rfl,hap u zs hu⟩
def segOk (f:Nat→Nat)(len i:Nat):Bool:=decide (i+2≤len∧(f i=1∨f i=2)∧i+2+4 * f (i+1)≤len)
def numsAt (f:Nat→Nat)(j n:Nat):List Int:=(List.range n).map fun k=>((num (fun q=>f (j+4 * k+q)):Nat):Int)
theorem numsAt_length (f:Nat→Nat)(j n:Nat):(numsAt f j n).length=n:=by simp [numsAt]
theorem numsAt_succ (f:Nat→Nat)(j n:Nat):numsAt f j (n+1)=numsAt f j n++[((num (fun q=>f (j+4 * n+q)):Nat):Int)]:=by simp [numsAt,List.range_succ]
def segAt (f:Nat→Nat)(i:Nat):Bool×List Int:=(decide (f i=1),numsAt f (i+2) (f (i+1)))
def fin (acc:List (Bool×List Int)):Option (List (Bool×List Int)):=if goodP acc then some acc else none
def segsFuel (f:Nat→Nat)(len:Nat):Nat→Nat→List (Bool×List Int)→Option (List (Bool×List Int))
  | 0,_,acc=>fin acc
  | k+1,i,acc=>if i < len then if segOk f len i then segsFuel f len k (i+2+4 * f (i+1)) (acc++[segAt f i]) else none else fin acc
def segsRun (f:Nat→Nat)(len i:Nat)(acc:List (Bool×List Int)):Option (List (Bool×List Int)):=segsFuel f len (len - i) i acc
theorem segsFuel_end {f:Nat→Nat}{len i:Nat}{acc:List (Bool×List Int)} (h:¬ i < len):∀ k,segsFuel f len k i acc=fin acc
  | 0=>rfl
  | k+1=>by rw [segsFuel,if_neg h]
theorem segsFuel_more (f:Nat→Nat)(len:Nat):∀ (k i:Nat) (acc:List (Bool×List Int)),len - i≤k→∀ d,segsFuel f len (k+d) i acc=segsFuel f len k i acc
  | 0,i,acc,h,d=>by rw [segsFuel_end (by omega),segsFuel_end (by omega)]
  | k+1,i,acc,h,d=>by
    rw [show k+1+d=(k+d)+1 from by omega,segsFuel,segsFuel]
    by_cases hi:i < len
    · rw [if_pos hi,if_pos hi]
      by_cases ho:segOk f len i=true
      · rw [if_pos ho,if_pos ho]
        exact segsFuel_more f len k _ _ (by omega) d
      · rw [if_neg ho,if_neg ho]
    · rw [if_neg hi,if_neg hi]
theorem segsRun_go {f:Nat→Nat}{len i:Nat}{acc:List (Bool×List Int)} (h:i < len) (ho:segOk f len i=true):segsRun f len i acc=segsRun f len (i+2+4 * f (i+1)) (acc++[segAt f i]):=by
  unfold segsRun
  rw [show len - i=(len - i - 1)+1 from by omega,segsFuel,if_pos h,if_pos ho,show len - i - 1=(len - (i+2+4 * f (i+1)))+(len - i - 1 - (len - (i+2+4 * f (i+1)))) from by omega,segsFuel_more _ _ _ _ _ (by omega)]
theorem segsRun_no {f:Nat→Nat}{len i:Nat}{acc:List (Bool×List Int)} (h:i < len) (ho:segOk f len i=false):segsRun f len i acc=none:=by
  unfold segsRun
  rw [show len - i=(len - i - 1)+1 from by omega,segsFuel,if_pos h,if_neg (by simp [ho])]
theorem segsRun_end {f:Nat→Nat}{len i:Nat}{acc:List (Bool×List Int)} (h:¬ i < len):segsRun f len i acc=fin acc:=segsFuel_end h _
def PthRes (w w':World)(r:Option (List (Bool×List Int)))(e:Ending):Prop :=
  match r with
  | none=>e=.returned (.tuple #[.slice none 0 0,.bool false])
  | some ss=>∃ v,e=.returned (.tuple #[v,.bool true])∧OwnPath w' w.heap.size v ss
section
variable {P:Program}{a:Act}{w w':World}{K:Act→World→Prop}{Q:Exit→Act→World→Prop}{dst:Option Tmp}{ty:TypeId}{pos:String}{after:Array Edge}{gd:Option (Nat×Bool)}
theorem kept_appendI (x y:Operand):Oper.wp P { dst:=dst,op:=.call { callee:=.builtin .append,args:=#[x,y],argTypes:=#[88,88] },type:=ty,pos:=pos,after:=after,guard:=gd } a w K Q=Kept P { dst:=dst,op:=.call { callee:=.builtin .append,args:=#[x,y],argTypes:=#[88,88] },type:=ty,pos:=pos,after:=after,guard:=gd } a w K Q:=rfl
theorem kept_appendI_intro (x y:Operand)(p q v:Value)(hx:a.eval x=p)(hy:a.eval y=q)(hr:(Builtin.append_ #[88,88] ty #[p,q]).run P w=.ok v w')(h:K (a.put dst v) w') :
    Kept P { dst:=dst,op:=.call { callee:=.builtin .append,args:=#[x,y],argTypes:=#[88,88] },type:=ty,pos:=pos,after:=after,guard:=gd } a w K Q:=by
  unfold Kept Oper.wp execOp
  simp only [resolve,invoke,builtin,Sem.run_bind,Sem.run_pure,Result.andThen_ok,List.map_toArray,List.map_cons,List.map_nil,hx,hy,hr]
  exact h
theorem kept_appendS (x y:Operand):Oper.wp P { dst:=dst,op:=.call { callee:=.builtin .append,args:=#[x,y],argTypes:=#[30,30] },type:=ty,pos:=pos,after:=after,guard:=gd } a w K Q=Kept P { dst:=dst,op:=.call { callee:=.builtin .append,args:=#[x,y],argTypes:=#[30,30] },type:=ty,pos:=pos,after:=after,guard:=gd } a w K Q:=rfl
theorem kept_appendS_intro (x y:Operand)(p q v:Value)(hx:a.eval x=p)(hy:a.eval y=q)(hr:(Builtin.append_ #[30,30] ty #[p,q]).run P w=.ok v w')(h:K (a.put dst v) w') :
    Kept P { dst:=dst,op:=.call { callee:=.builtin .append,args:=#[x,y],argTypes:=#[30,30] },type:=ty,pos:=pos,after:=after,guard:=gd } a w K Q:=by
  unfold Kept Oper.wp execOp
  simp only [resolve,invoke,builtin,Sem.run_bind,Sem.run_pure,Result.andThen_ok,List.map_toArray,List.map_cons,List.map_nil,hx,hy,hr]
  exact h
end
structure SegSt (w0 w:World) (X:Nat) (b:Bool) (u:Value) (zs:List Int):Prop where
  own:w.ownsRow (X+1) 3 1 u zs.length (icells zs)
  bel:Below X w0 w
  c0:w.cell? ⟨X,0,none⟩=some (.bool b)
  c1:w.cell? ⟨X,1,none⟩=some u
  fz:∀ j,w.frozen? ⟨X,j,none⟩=false
theorem segSt_new (w0:World)(b:Bool):SegSt w0 (w0.alloc (.cells #[.bool b,.slice none 0 0] 136)) w0.heap.size b (.slice none 0 0) [] :=
  ⟨own_nil _ _ _ _,(Below.refl _ _).alloc (Nat.le_refl _) _,by simp [go_sem],by simp [go_sem],fun j=>by simp [go_sem]⟩
theorem SegSt.later {w0 w w':World}{X:Nat}{b:Bool}{u:Value}{zs:List Int} (h:SegSt w0 w X b u zs) (hb:Below w.heap.size w w'):SegSt w0 w' X b u zs:=by
  have hX:=World.block_lt_of_cell? w _ h.c0
  simp only at hX
  exact ⟨own_later h.own hb,h.bel.trans (hb.mono (by omega)),by rw [hb.cell (p:=⟨X,0,none⟩) (by exact hX)]; exact h.c0,by rw [hb.cell (p:=⟨X,1,none⟩) (by exact hX)]; exact h.c1,fun j=>by rw [hb.frozen (p:=⟨X,j,none⟩) (by exact hX)]; exact h.fz j⟩
theorem SegSt.more {w0 w:World}{X:Nat}{b:Bool}{u:Value}{zs:List Int} (h:SegSt w0 w X b u zs) (x:Int) (hl:zs.length≤100000) :
    ∃ g3 c3 w3,(Builtin.append_ #[88,88] 88 #[u,.slice (some ⟨w.heap.size,0,none⟩) 1 1]).run Tryz.prog (w.alloc (.cells #[.int .i64 x] 3))=.ok (.slice (some ⟨g3,0,none⟩) (zs.length+1) c3) w3∧w3.cell? ⟨X,1,none⟩=some u∧w3.frozen? ⟨X,1,none⟩=false∧SegSt w0 (w3.setCell ⟨X,1,none⟩ (.slice (some ⟨g3,0,none⟩) (zs.length+1) c3)) X b (.slice (some ⟨g3,0,none⟩) (zs.length+1) c3) (zs++[x]):=by
  have hX:=World.block_lt_of_cell? w _ h.c0
  simp only at hX
  obtain ⟨v3,w3,hr,ho,hb⟩:=app_new elemInt h.own (by omega) 1 (icells [x]) rfl (icells_one _) (by omega) w.heap.size rfl
  have e0:w3.cell? ⟨X,0,none⟩=some (.bool b):=by rw [World.cell?_of_block (w:=w) (hb.block X (by omega))]; exact h.c0
  have e1:w3.cell? ⟨X,1,none⟩=some u:=by rw [World.cell?_of_block (w:=w) (hb.block X (by omega))]; exact h.c1
  have ef:∀ j,w3.frozen? ⟨X,j,none⟩=false:=fun j=>by rw [World.frozen?_of_block (w:=w) (hb.block X (by omega))]; exact h.fz j
  obtain ⟨g3,c3,rfl,_,_⟩:=ho.form (by omega)
  refine ⟨g3,c3,w3,hr,e1,ef 1,⟨?_,?_,?_,?_,fun j=>by rw [World.frozen?_setCell]; exact ef j⟩⟩
  · rw [icells_app,List.length_append]
    refine ⟨ho.1,?_⟩
    rcases ho.2 with hh | ⟨g,cap,cur,ev,hg,hc,rest⟩
    · exact .inl hh
    · refine .inr ⟨g,cap,cur,ev,hg,?_,rest⟩
      rw [heap_setCell w3 X 1 _ g (by omega)]
      exact hc
  · exact (h.bel.trans (hb.mono (by omega))).setCell (Nat.le_refl _) _
  · rw [World.cell?_setCell_other _ _ _ _ (by intro e; injection e with _ e2 _; omega)]; exact e0
  · rw [World.cell?_setCell_same _ _ _ e1]
theorem own_one {w:World}{B e size n:Nat}{u:Value}{xs:List Value} (h:w.ownsRow B e size u n xs):u.oneCell'=true:=by
  rcases h.2 with ⟨rfl,_⟩ | ⟨g,cap,cur,rfl,_⟩ <;> rfl
section
attribute [local go_sem ↓] Go.wp_at_zero Go.wp_at_succ kept_appendI kept_appendS
set_option maxHeartbeats 6400000 in
theorem readp_some (b off len cap:Nat)(f:Nat→Nat)(w:World)(hl:len≤10000)(hlc:len≤cap)(hf:∀ j,j < len→f j < 256)(hcell:∀ j,j < len→w.cell? ⟨b,off+j,none⟩=some (.int .u8 (f j:Int))) :
    Calls Tryz.prog 75 #[.slice (some ⟨b,off,none⟩) len cap] w fun e w'=>PthRes w w' (segsRun f len 0 []) e∧Below w.heap.size w w':=by
  have HC:=hide hcell
  have HF:=hide hf
  clear hcell hf
  go_enter Tryz.func75,Tryz.ntmps75
  go_wp2
  go_loopw [4,5] (fun v s wq=>∃ (i:Nat) (acc:List (Bool×List Int)),s=.int .i64 (i:Int)∧i≤len∧Hid (OwnPath wq w.heap.size v acc)∧Hid (Below w.heap.size w wq)∧Hid (segsRun f len 0 []=segsRun f len i acc)∧acc.length+sumP acc≤i) (fun _ s _=>len - (intOf s).toNat)
  case atStart=>exact ⟨0,[],rfl,Nat.zero_le _,OwnPath.nil _ _,Below.refl _ _,rfl,Nat.le_refl _⟩
  case round =>
    obtain ⟨i,acc,rfl,hi,HO,HB,HE,hal⟩:=hrel
    obtain ⟨wo,hwo⟩:∃ wo:World,wo=wr:=⟨wr,rfl⟩
    subst hwo
    by_cases hlt:i < len
    · have hcw:Hid (∀ j,j < len→wo.cell? ⟨b,off+j,none⟩=some (.int .u8 (f j:Int))):=fun j hj=>by
        rw [HB.out.cell (p:=⟨b,off+j,none⟩) (World.block_lt_of_cell? w _ (HC.out j hj))]
        exact HC.out j hj
      have hci:=hcw.out i hlt
      have hfi:=HF.out i hlt
      have hi0:(0:Int)≤(i:Int):=Int.natCast_nonneg _
      have hi1:(i:Int) < (len:Int):=by omega
      cases hk:segOk f len i with
      | false =>
        have HN:Hid (segsRun f len 0 []=none):=by show segsRun f len 0 []=none; rw [HE.out,segsRun_no hlt hk]
        have hok:=of_decide_eq_false hk
        clear hk
        by_cases h2:len < i+2
        · have j2:(len:Int) < (i:Int)+2:=by omega
          clear hok
          go_wp2
          go_ret2
          exact ⟨by rw [HN.out]; rfl,HB.out⟩
        · have d2:decide ((len:Int) < (i:Int)+2)=false:=decide_eq_false (by omega)
          by_cases h3:f i=1∨f i=2
          · have hci1:=hcw.out (i+1) (by omega)
            have hfi1:=HF.out (i+1) (by omega)
            have h4:len < i+2+4 * f (i+1):=by omega
            generalize f (i+1)=n at *
            have j4:(len:Int) < (i:Int)+2+4 * (n:Int):=by omega
            have j5:(0:Int)≤(i:Int)+1:=by omega
            have j6:(i:Int)+1 < (len:Int):=by omega
            rcases h3 with h3 | h3
            · rw [h3] at hci
              clear hok h2 h3 h4
              go_wp2
              go_ret2
              exact ⟨by rw [HN.out]; rfl,HB.out⟩
            · rw [h3] at hci
              clear hok h2 h3 h4
              go_wp2
              go_ret2
              exact ⟨by rw [HN.out]; rfl,HB.out⟩
          · have e1:((f i:Int) != 1)=true:=by simp; omega
            have e2:((f i:Int) != 2)=true:=by simp; omega
            clear hok h2 h3
            go_wp2
            go_ret2
            exact ⟨by rw [HN.out]; rfl,HB.out⟩
      | true =>
        obtain ⟨ho1,ho2,ho3⟩:=of_decide_eq_true hk
        have HE1:Hid (segsRun f len 0 []=segsRun f len (i+2+4 * f (i+1)) (acc++[segAt f i])):=by show segsRun f len 0 []=_; rw [HE.out,segsRun_go hlt hk]
        clear hk HE
        have hci1:=hcw.out (i+1) (by omega)
        have hfi1:=HF.out (i+1) (by omega)
        have HSEG:Hid (segAt f i=(decide (f i=1),numsAt f (i+2) (f (i+1)))):=rfl
        generalize hfn:f (i+1)=n at *
        clear hfn
        have d2:decide ((len:Int) < (i:Int)+2)=false:=decide_eq_false (by omega)
        have d4:decide ((len:Int) < (i:Int)+2+4 * (n:Int))=false:=decide_eq_false (by omega)
        have j5:(0:Int)≤(i:Int)+1:=by omega
        have j6:(i:Int)+1 < (len:Int):=by omega
        rcases ho2 with h3 | h3
        · rw [h3] at hci HSEG hfi
          clear h3
          have HSG:Hid (segAt f i=(true,numsAt f (i+2) n)):=HSEG.out
          clear HSEG
          go_wp2
          have HQ0:Hid (SegSt wo (wo.alloc (.cells #[.bool true,.slice none 0 0] 136)) wo.heap.size true (.slice none 0 0) (numsAt f (i+2) 0)):=segSt_new wo true
          go_loopw [7] (fun j wq=>∃ k:Nat,k≤n∧j=.int .i64 k∧Hid (∃ u,SegSt wo wq wo.heap.size true u (numsAt f (i+2) k))) (fun j _=>n - (intOf j).toNat)
          case atStart=>exact ⟨0,Nat.zero_le _,rfl,⟨_,HQ0.out⟩⟩
          case round =>
            clear HQ0
            obtain ⟨k,hk,rfl,HQ⟩:=hrel
            obtain ⟨u,hs⟩:=HQ.out
            have hz:wo.heap.size < wr.heap.size:=by have:=World.block_lt_of_cell? wr _ hs.c0; simpa using this
            have HW:Hid (∀ j,j < len→wr.cell? ⟨b,off+j,none⟩=some (.int .u8 (f j:Int))):=fun j hj=>by
              rw [hs.bel.cell (p:=⟨b,off+j,none⟩) (World.block_lt_of_cell? wo _ (hcw.out j hj))]
              exact hcw.out j hj
            have hd1:wr.cell? ⟨b,off+(i+1),none⟩=some (.int .u8 (n:Int)):=by
              rw [hs.bel.cell (p:=⟨b,off+(i+1),none⟩) (World.block_lt_of_cell? wo _ hci1)]
              exact hci1
            have q0:=hs.c0
            have q1:=hs.c1
            have z1:=hs.fz 1
            have HSS:=hide hs
            clear hs HQ
            by_cases hkn:k < n
            · have hk0:(0:Int)≤(k:Int):=Int.natCast_nonneg _
              have hk1:(k:Int) < (n:Int):=by omega
              have wA:IntKind.i64.wrap ((i:Int)+2)=(i:Int)+2:=by rw [IntKind.wrap_i64]; omega
              have wB:IntKind.i64.wrap (4 * (k:Int))=4 * (k:Int):=by rw [IntKind.wrap_i64]; omega
              have wC:IntKind.i64.wrap ((i:Int)+2+4 * (k:Int))=((i+2+4 * k:Nat):Int):=by rw [IntKind.wrap_i64]; omega
              have hne:¬ cap=i+2+4 * k:=by omega
              have s0:(0:Int)≤((i+2+4 * k:Nat):Int):=Int.natCast_nonneg _
              have s1:((i+2+4 * k:Nat):Int)≤(len:Int):=by omega
              have s2:(len:Int)≤(cap:Int):=by omega
              have HNX:=hide (numsAt_succ f (i+2) k)
              have HNB:Hid (∀ q,q < 4→f (i+2+4 * k+q) < 256):=fun q hq=>HF.out _ (by omega)
              have HNC:Hid (∀ q,q < 4→wr.cell? ⟨b,off+(i+2+4 * k)+q,none⟩=some (.int .u8 (f (i+2+4 * k+q):Int))):=fun q hq=>by rw [Nat.add_assoc]; exact HW.out _ (by omega)
              have hpl:4≤len - (i+2+4 * k):=by omega
              go_wp2_with fail
              go_region_with (first
                | (go_at_call 29; refine (num_eq b (off+(i+2+4 * k)) (len - (i+2+4 * k)) (cap - (i+2+4 * k)) (fun q=>f (i+2+4 * k+q)) wr.drew hpl HNB.out (fun q hq=>HNC.out q hq)).mono ?_; rintro e w9 ⟨rfl,hw9⟩
                   have hb9:Below wr.heap.size wr w9:=(by obtain ⟨k4,rfl⟩:=hw9; exact below_drewN (Below.refl _ _).drew k4)
                   have HS9:=hide (HSS.out.later hb9)
                   have q19:=HS9.out.c1
                   have hz9:wo.heap.size < w9.heap.size:=Nat.lt_of_lt_of_le hz hb9.size
                   obtain ⟨g3,c3,w3,hr3,t1,tz,hs3⟩:=HS9.out.more ((num (fun q=>f (i+2+4 * k+q)):Nat):Int) (by rw [numsAt_length]; omega)
                   rw [numsAt_length] at hr3 hs3
                   rw [← numsAt_succ] at hs3
                   have HR3:=hide hr3
                   have HS3:=hide hs3
                   clear hr3 hs3 hw9 hb9)
                | (refine kept_appendI_intro _ _ u (.slice (some ⟨w9.heap.size,0,none⟩) 1 1) (.slice (some ⟨g3,0,none⟩) (k+1) c3) (w':=w3) (by rfl) (by rfl) (by exact HR3.out) ?_))
              all_goals go_wp2
              all_goals exact ⟨⟨k+1,by omega,by go_num,⟨_,HS3.out⟩⟩,by simp [intOf]; omega⟩
            · have hk2:k=n:=by omega
              subst hk2
              clear hkn hk
              have HO2:=hide (HO.out.later HSS.out.bel)
              have hB2:=HB.out.size
              obtain ⟨v9,w9,hr9,ho9,hb9⟩:=HO2.out.snoc (b:=true) (own_base HSS.out.own (by omega)) (own_one HSS.out.own) (by omega) (by omega) wr.heap.size rfl
              have HB9:=hide ((HB.out.trans (HSS.out.bel.mono hB2)).trans hb9)
              have HR9:=hide hr9
              have HO9:=hide ho9
              have hd9:w9.cell? ⟨b,off+(i+1),none⟩=some (.int .u8 (k:Int)):=by
                rw [hb9.cell (p:=⟨b,off+(i+1),none⟩) (by have h8:=World.block_lt_of_cell? w _ (HC.out i hlt); exact h8)]
                exact hd1
              clear hr9 ho9 hb9
              go_wp2
              refine kept_appendS_intro _ _ _ (.slice (some ⟨wr.heap.size,0,none⟩) 1 1) v9 (w':=w9) (by rfl) (by rfl) (by exact HR9.out) ?_
              go_wp2
              exact ⟨⟨i+2+4 * k,acc++[(true,numsAt f (i+2) k)],by go_num,ho3,HO9,HB9,by have h8:=HE1.out; rw [HSG.out] at h8; exact h8,by rw [List.length_append,sumP_snoc,numsAt_length]; simp only [List.length_cons,List.length_nil]; omega⟩,by simp [intOf]; omega⟩
        · rw [h3] at hci HSEG hfi
          clear h3
          have HSG:Hid (segAt f i=(false,numsAt f (i+2) n)):=HSEG.out
          clear HSEG
          go_wp2
          have HQ0:Hid (SegSt wo (wo.alloc (.cells #[.bool false,.slice none 0 0] 136)) wo.heap.size false (.slice none 0 0) (numsAt f (i+2) 0)):=segSt_new wo false
          go_loopw [7] (fun j wq=>∃ k:Nat,k≤n∧j=.int .i64 k∧Hid (∃ u,SegSt wo wq wo.heap.size false u (numsAt f (i+2) k))) (fun j _=>n - (intOf j).toNat)
          case atStart=>exact ⟨0,Nat.zero_le _,rfl,⟨_,HQ0.out⟩⟩
          case round =>
            clear HQ0
            obtain ⟨k,hk,rfl,HQ⟩:=hrel
            obtain ⟨u,hs⟩:=HQ.out
            have hz:wo.heap.size < wr.heap.size:=by have:=World.block_lt_of_cell? wr _ hs.c0; simpa using this
            have HW:Hid (∀ j,j < len→wr.cell? ⟨b,off+j,none⟩=some (.int .u8 (f j:Int))):=fun j hj=>by
              rw [hs.bel.cell (p:=⟨b,off+j,none⟩) (World.block_lt_of_cell? wo _ (hcw.out j hj))]
              exact hcw.out j hj
            have hd1:wr.cell? ⟨b,off+(i+1),none⟩=some (.int .u8 (n:Int)):=by
              rw [hs.bel.cell (p:=⟨b,off+(i+1),none⟩) (World.block_lt_of_cell? wo _ hci1)]
              exact hci1
            have q0:=hs.c0
            have q1:=hs.c1
            have z1:=hs.fz 1
            have HSS:=hide hs
            clear hs HQ
            by_cases hkn:k < n
            · have hk0:(0:Int)≤(k:Int):=Int.natCast_nonneg _
              have hk1:(k:Int) < (n:Int):=by omega
              have wA:IntKind.i64.wrap ((i:Int)+2)=(i:Int)+2:=by rw [IntKind.wrap_i64]; omega
              have wB:IntKind.i64.wrap (4 * (k:Int))=4 * (k:Int):=by rw [IntKind.wrap_i64]; omega
              have wC:IntKind.i64.wrap ((i:Int)+2+4 * (k:Int))=((i+2+4 * k:Nat):Int):=by rw [IntKind.wrap_i64]; omega
              have hne:¬ cap=i+2+4 * k:=by omega
              have s0:(0:Int)≤((i+2+4 * k:Nat):Int):=Int.natCast_nonneg _
              have s1:((i+2+4 * k:Nat):Int)≤(len:Int):=by omega
              have s2:(len:Int)≤(cap:Int):=by omega
              have HNX:=hide (numsAt_succ f (i+2) k)
              have HNB:Hid (∀ q,q < 4→f (i+2+4 * k+q) < 256):=fun q hq=>HF.out _ (by omega)
              have HNC:Hid (∀ q,q < 4→wr.cell? ⟨b,off+(i+2+4 * k)+q,none⟩=some (.int .u8 (f (i+2+4 * k+q):Int))):=fun q hq=>by rw [Nat.add_assoc]; exact HW.out _ (by omega)
              have hpl:4≤len - (i+2+4 * k):=by omega
              go_wp2_with fail
              go_region_with (first
                | (go_at_call 29; refine (num_eq b (off+(i+2+4 * k)) (len - (i+2+4 * k)) (cap - (i+2+4 * k)) (fun q=>f (i+2+4 * k+q)) wr.drew hpl HNB.out (fun q hq=>HNC.out q hq)).mono ?_; rintro e w9 ⟨rfl,hw9⟩
                   have hb9:Below wr.heap.size wr w9:=(by obtain ⟨k4,rfl⟩:=hw9; exact below_drewN (Below.refl _ _).drew k4)
                   have HS9:=hide (HSS.out.later hb9)
                   have q19:=HS9.out.c1
                   have hz9:wo.heap.size < w9.heap.size:=Nat.lt_of_lt_of_le hz hb9.size
                   obtain ⟨g3,c3,w3,hr3,t1,tz,hs3⟩:=HS9.out.more ((num (fun q=>f (i+2+4 * k+q)):Nat):Int) (by rw [numsAt_length]; omega)
                   rw [numsAt_length] at hr3 hs3
                   rw [← numsAt_succ] at hs3
                   have HR3:=hide hr3
                   have HS3:=hide hs3
                   clear hr3 hs3 hw9 hb9)
                | (refine kept_appendI_intro _ _ u (.slice (some ⟨w9.heap.size,0,none⟩) 1 1) (.slice (some ⟨g3,0,none⟩) (k+1) c3) (w':=w3) (by rfl) (by rfl) (by exact HR3.out) ?_))
              all_goals go_wp2
              all_goals exact ⟨⟨k+1,by omega,by go_num,⟨_,HS3.out⟩⟩,by simp [intOf]; omega⟩
            · have hk2:k=n:=by omega
              subst hk2
              clear hkn hk
              have HO2:=hide (HO.out.later HSS.out.bel)
              have hB2:=HB.out.size
              obtain ⟨v9,w9,hr9,ho9,hb9⟩:=HO2.out.snoc (b:=false) (own_base HSS.out.own (by omega)) (own_one HSS.out.own) (by omega) (by omega) wr.heap.size rfl
              have HB9:=hide ((HB.out.trans (HSS.out.bel.mono hB2)).trans hb9)
              have HR9:=hide hr9
              have HO9:=hide ho9
              have hd9:w9.cell? ⟨b,off+(i+1),none⟩=some (.int .u8 (k:Int)):=by
                rw [hb9.cell (p:=⟨b,off+(i+1),none⟩) (by have h8:=World.block_lt_of_cell? w _ (HC.out i hlt); exact h8)]
                exact hd1
              clear hr9 ho9 hb9
              go_wp2
              refine kept_appendS_intro _ _ _ (.slice (some ⟨wr.heap.size,0,none⟩) 1 1) v9 (w':=w9) (by rfl) (by rfl) (by exact HR9.out) ?_
              go_wp2
              exact ⟨⟨i+2+4 * k,acc++[(false,numsAt f (i+2) k)],by go_num,ho3,HO9,HB9,by have h8:=HE1.out; rw [HSG.out] at h8; exact h8,by rw [List.length_append,sumP_snoc,numsAt_length]; simp only [List.length_cons,List.length_nil]; omega⟩,by simp [intOf]; omega⟩
    · have HN:Hid (segsRun f len 0 []=fin acc):=by show segsRun f len 0 []=fin acc; rw [HE.out,segsRun_end hlt]
      obtain ⟨a9,c9,e9,hrd⟩:=HO.out.rd (by omega) (fun s hs=>by have:=sumP_mem acc s hs; omega)
      subst e9
      have HRG:=hide (rgood_any a9 c9 acc wo (by omega) hrd)
      clear hrd
      generalize hal2:acc.length=al at *
      go_wp2_with fail
      refine HRG.out.mono ?_
      cases hg:goodP acc with
      | false =>
        have HN2:Hid (segsRun f len 0 []=none):=by show segsRun f len 0 []=none; rw [HN.out,fin,hg]; rfl
        clear hg
        rintro e w1 ⟨rfl,hw1⟩
        subst hw1
        go_wp2
        go_ret2
        exact ⟨by rw [HN2.out]; rfl,HB.out⟩
      | true =>
        have HN2:Hid (segsRun f len 0 []=some acc):=by show segsRun f len 0 []=some acc; rw [HN.out,fin,hg]; rfl
        clear hg
        rintro e w1 ⟨rfl,hw1⟩
        subst hw1
        go_wp2
        go_ret2
        exact ⟨by rw [HN2.out]; exact ⟨_,rfl,HO.out⟩,HB.out⟩
end
set_option maxHeartbeats 800000 in
theorem readp_empty (a:Option Addr)(cap:Nat)(f:Nat→Nat)(w:World) :
    Calls Tryz.prog 75 #[.slice a 0 cap] w fun e w'=>PthRes w w' (segsRun f 0 0 []) e∧Below w.heap.size w w':=by
  have HN:Hid (segsRun f 0 0 []=some []):=by
    show segsRun f 0 0 []=some []
    rw [segsRun_end (by omega)]
    rfl
  obtain ⟨a9,c9,e9,hrd⟩:=(OwnPath.nil w w.heap.size).rd (by simp) (by simp)
  have HRG:=hide (rgood_any a9 c9 [] w (by simp [sumP]) hrd)
  clear hrd
  simp only [List.length_nil,Value.slice.injEq] at e9
  obtain ⟨rfl,_,rfl⟩:=e9
  go_enter Tryz.func75,Tryz.ntmps75
  go_wp2
  go_loopw [4,5] (fun v s wq=>v=.slice none 0 0∧s=.int .i64 0∧wq=w) (fun _ s _=>(intOf s).toNat)
  case atStart=>exact ⟨rfl,rfl,rfl⟩
  case round =>
    obtain ⟨rfl,rfl,rfl⟩:=hrel
    go_wp2_with fail
    refine HRG.out.mono ?_
    rintro e w1 ⟨rfl,hw1⟩
    subst hw1
    go_wp2
    go_ret2
    exact ⟨by rw [HN.out]; exact ⟨_,rfl,OwnPath.nil _ _⟩,Below.refl _ _⟩
theorem readp_any (a:Option Addr)(len cap:Nat)(f:Nat→Nat)(w:World)(hl:len≤10000)(hlc:len≤cap)(hf:∀ j,j < len→f j < 256)(h:Rw w a len f) :
    Calls Tryz.prog 75 #[.slice a len cap] w fun e w'=>PthRes w w' (segsRun f len 0 []) e∧Below w.heap.size w w':=by
  by_cases h0:len=0
  · subst h0; exact readp_empty a cap f w
  · obtain ⟨b,off,rfl,hc⟩:=h.2 (by omega)
    exact readp_some b off len cap f w hl hlc hf hc
def partN (f:Nat→Nat)(k i:Nat):Int:=((numUp f (4 * i) (min 4 (k - 4 * i)):Nat):Int)
def parts (f:Nat→Nat)(n k:Nat):List Int:=(List.range n).map (partN f k)
theorem parts_length (f:Nat→Nat)(n k:Nat):(parts f n k).length=n:=by simp [parts]
theorem parts_zero (f:Nat→Nat)(n:Nat):parts f n 0=List.replicate n 0:=by
 apply List.ext_getElem?
 intro i
 by_cases hi:i < n
 ·simp [parts,partN,hi,numUp]
 ·simp [parts,hi]
theorem parts_succ (f:Nat→Nat)(n j q:Nat)(hq:q < 4):parts f n (4 * j+q+1)=(parts f n (4 * j+q)).set j ((numUp f (4 * j) (q+1):Nat):Int):=by
 apply List.ext_getElem?
 intro i
 by_cases hi:i < n
 ·rw [List.getElem?_set]
  by_cases e:j=i
  ·subst e
   simp only [parts_length,hi,if_true]
   simp [parts,partN,hi]
   rw [show min 4 (4 * j+q+1 - 4 * j)=q+1 from by omega]
  ·rw [if_neg e]
   simp only [parts,partN,List.getElem?_map,List.getElem?_range hi,Option.map_some]
   rw [show min 4 (4 * j+q+1 - 4 * i)=min 4 (4 * j+q - 4 * i) from by omega]
 ·rw [List.getElem?_eq_none (by rw [parts_length]; omega),List.getElem?_eq_none (by rw [List.length_set,parts_length]; omega)]
theorem parts_get (f:Nat→Nat)(n j q:Nat)(hq:q < 4)(hj:j < n):(parts f n (4 * j+q))[j]?=some ((numUp f (4 * j) q:Nat):Int):=by
 simp [parts,partN,hj]
 rw [show min 4 q=q from by omega]
theorem parts_end (f:Nat→Nat)(n:Nat):parts f n (4 * n)=numsAt f 0 n:=by
 apply List.ext_getElem?
 intro i
 by_cases hi:i < n
 ·simp [parts,partN,numsAt,hi]
  rw [show min 4 (4 * n - 4 * i)=4 from by omega,num_up]
  rw [numUp_congr f (fun q=>f (4 * i+q)) (4 * i) 0 4 (fun q _=>by show f (4 * i+q)=f (4 * i+(0+q)); rw [Nat.zero_add])]
 ·rw [List.getElem?_eq_none (by rw [parts_length]; omega),List.getElem?_eq_none (by rw [numsAt_length]; omega)]
theorem or64 (f:Nat→Nat)(j q:Nat)(hq:q < 4)(hf:∀ i,i < 4→f (j+i) < 256):bits .or .i64 ((numUp f j q:Nat):Int) ((f (j+q):Int) * 2 ^ (8 * (3 - q)))=((numUp f j (q+1):Nat):Int)∧f (j+q) * 2 ^ (8 * (3 - q)) < 4294967296:=by
 have hfq:=hf q hq
 have hlt:f (j+q) * 2 ^ (8 * (3 - q)) < 4294967296:=by
  have h1:f (j+q) * 2 ^ (8 * (3 - q)) < 256 * 2 ^ (8 * (3 - q)):=Nat.mul_lt_mul_of_pos_right hfq (Nat.two_pow_pos _)
  have h2:2 ^ (8 * (3 - q))≤2 ^ 24:=Nat.pow_le_pow_right (by omega) (by omega)
  simp only [Nat.reducePow] at h2
  omega
 have e2:(f (j+q):Int) * 2 ^ (8 * (3 - q))=((f (j+q) * 2 ^ (8 * (3 - q)):Nat):Int):=by simp
 have hx:=numUp_lt32 f j q (by omega) (fun i hi=>hf i (by omega))
 refine ⟨?_,hlt⟩
 rw [e2,(bits_nat .i64 32 (by decide) (fun n h0 h1=>by rw [IntKind.wrap_i64]; simp only [Int.reducePow] at h1; omega) _ _ (by simpa using hx) (by simpa using hlt)).2,numUp_or f j q hq hfq]
theorem run_make_ints (n:Nat)(hn:n≤100000)(w:World):(Instr.makeSlice 88 (.int .i64 (n:Int)) (.int .i64 (n:Int))).run Tryz.prog w =
  .ok (.slice (some ⟨w.heap.size,0,none⟩) n n) (w.alloc (.cells (icells (List.replicate n 0)).toArray 3)):=by
 obtain ⟨i0,hi0,hz0,hz1,hz2⟩:=info_parts Tryz.infoInt
 have:=run_make (P:=Tryz.prog) w 88 3 i0 _ Tryz.underlying88 hi0 hz0 .i64 .i64 (n:Int) (n:Int) (by omega) (Int.le_refl _) (by rw [hz2]; omega) (by omega)
 simp only [Int.toNat_natCast,hz1,Value.cells,Nat.mul_one] at this
 rw [this]
 congr 3
 apply Array.ext_getElem?
 intro k
 by_cases hk:k < n
 ·simp [madeCells,icells,hk,Nat.mod_one]
 ·simp [madeCells,icells,hk]
theorem own_ints (w:World)(n:Nat)(l:List Int)(hl:l.length=n)(hn:n≤100000):(w.alloc (.cells (icells l).toArray 3)).ownsRow w.heap.size 3 1 (.slice (some ⟨w.heap.size,0,none⟩) n n) n (icells l) :=
 ⟨by rw [icells_length]; omega,.inr ⟨w.heap.size,n,_,rfl,Nat.le_refl _,by unfold World.alloc; exact Array.getElem?_push_size,Nat.le_refl _,by unfold maxLen; omega,by simp [icells_length,hl],by rw [Nat.mul_one,← hl,← icells_length l,List.take_length]⟩⟩
theorem icells_set (l:List Int)(j:Nat)(z:Int):icells (l.set j z)=(icells l).set j (.int .i64 z):=by simp [icells,List.map_set]
set_option maxHeartbeats 3200000 in
theorem numbers_some (b o n c:Nat)(f:Nat→Nat)(w:World)(hn:n≤255)(hn0:0 < n)(hf:∀ i,i < 4 * n→f i < 256)(hcell:∀ i,i < 4 * n→w.cell? ⟨b,o+i,none⟩=some (.int .u8 (f i:Int))) :
  Calls Tryz.prog 162 #[.slice (some ⟨b,o,none⟩) (4 * n) c] w fun e w'=>e=.returned (.slice (some ⟨w.heap.size,0,none⟩) n n)∧w'.ownsRow w.heap.size 3 1 (.slice (some ⟨w.heap.size,0,none⟩) n n) n (icells (numsAt f 0 n))∧Below w.heap.size w w':=by
 have HC:=hide hcell
 have HF:=hide hf
 clear hcell hf
 have hmk:=fun w=>run_make_ints n (by omega) w
 have HO0:Hid ((w.alloc (.cells (icells (List.replicate n 0)).toArray 3)).ownsRow w.heap.size 3 1 (.slice (some ⟨w.heap.size,0,none⟩) n n) n (icells (parts f n 0))):=by
  show World.ownsRow _ _ _ _ _ _ _
  rw [parts_zero]; exact own_ints w n _ (by simp) (by omega)
 generalize hm:4 * n=m at *
 have hquo:Int.tdiv (m:Int) 4=(n:Int):=by rw [Int.tdiv_eq_ediv_of_nonneg (by omega)]; omega
 have HM:=hide hm
 have hmb:m≤1020:=by omega
 clear hm
 go_enter Tryz.func162,Tryz.ntmps162
 go_wp2
 go_loopw [12] (fun i wq=>∃ k:Nat,k≤m∧i=.int .i64 k∧Hid (wq.ownsRow w.heap.size 3 1 (.slice (some ⟨w.heap.size,0,none⟩) n n) n (icells (parts f n k)))∧Hid (Below w.heap.size w wq)) (fun i _=>m - (intOf i).toNat)
 case atStart=>exact ⟨0,Nat.zero_le _,rfl,HO0,(Below.refl _ _).alloc (Nat.le_refl _) _⟩
 case round =>
  obtain ⟨k,hk,rfl,HO,HB⟩:=hrel
  clear HO0
  by_cases hlt:k < m
  ·have ck:wr.cell? ⟨b,o+k,none⟩=some (.int .u8 (f k:Int)):=by
    rw [HB.out.cell (p:=⟨b,o+k,none⟩) (World.block_lt_of_cell? w _ (HC.out k hlt))]
    exact HC.out k hlt
   obtain ⟨j,q,hq4,hjq⟩:∃ j q,q < 4∧k=4 * j+q:=⟨k / 4,k % 4,by omega,by omega⟩
   have hjn:j < n:=by have:=HM.out; omega
   have hj4:Int.tdiv (k:Int) 4=(j:Int):=by rw [Int.tdiv_eq_ediv_of_nonneg (by omega)]; omega
   have hq5:Int.tmod (k:Int) 4=(q:Int):=by rw [Int.tmod_eq_emod_of_nonneg (by omega)]; omega
   have hcj:wr.cell? ⟨w.heap.size,j,none⟩=some (.int .i64 ((numUp f (4 * j) q:Nat):Int)):=by
    rw [HO.out.cellAt j (by rw [Nat.mul_one]; exact hjn),hjq]
    exact icells_get _ j _ (parts_get f n j q hq4 hjn)
   have hzj:wr.frozen? ⟨w.heap.size,j,none⟩=false:=HO.out.frozenAt j
   obtain ⟨hor,hlo⟩:=or64 f (4 * j) q hq4 (fun i hi=>HF.out (4 * j+i) (by have:=HM.out; omega))
   have hup:=numUp_lt32 f (4 * j) q (by omega) (fun i hi=>HF.out (4 * j+i) (by have:=HM.out; omega))
   have hst:=HO.out.stored j (.int .i64 ((numUp f (4 * j) (q+1):Nat):Int))
   have HO2:Hid ((wr.setCell ⟨w.heap.size,j,none⟩ (.int .i64 ((numUp f (4 * j) (q+1):Nat):Int))).ownsRow w.heap.size 3 1 (.slice (some ⟨w.heap.size,0,none⟩) n n) n (icells (parts f n (k+1)))):=by
    show World.ownsRow _ _ _ _ _ _ _
    rw [hjq,parts_succ f n j q hq4,icells_set,← hjq]; exact hst.1
   have HB2:Hid (Below w.heap.size w (wr.setCell ⟨w.heap.size,j,none⟩ (.int .i64 ((numUp f (4 * j) (q+1):Nat):Int)))):=HB.out.setCell (Nat.le_refl _) _
   rw [← hjq] at hor hlo
   have HFK:=HF.out k hlt
   have HOR:=hide hor
   have HLO:=hide hlo
   have HUP:=hide hup
   clear hst hor hlo hup hjq
   generalize numUp f (4 * j) (q+1)=x2 at *
   generalize numUp f (4 * j) q=x1 at *
   generalize f k=y at *
   have hk0:(0:Int)≤(k:Int):=Int.natCast_nonneg _
   have hk1:(k:Int) < (m:Int):=by omega
   have hjn2:(j:Int) < (n:Int):=by omega
   have hj0:(0:Int)≤(j:Int):=Int.natCast_nonneg _
   have wj:IntKind.i64.wrap (j:Int)=(j:Int):=by rw [IntKind.wrap_i64]; omega
   have wy8:IntKind.i64.wrap (y:Int)=(y:Int):=by rw [IntKind.wrap_i64]; omega
   have hqq:8 * (3 - q) < 64:=by omega
   generalize hqe:8 * (3 - q)=qq at *
   have wy:IntKind.i64.wrap ((y:Int) * 2 ^ qq)=(y:Int) * 2 ^ qq:=by
    have e2:(y:Int) * 2 ^ qq=((y * 2 ^ qq:Nat):Int):=by simp
    have:=HLO.out
    rw [e2,IntKind.wrap_i64]
    generalize y * 2 ^ qq=t at *
    omega
   have hz1:w.heap.size < wr.heap.size:=by have:=World.block_lt_of_cell? wr _ hcj; simpa using this
   go_wp2_with fail
   go_region_with (go_at_call 167; refine (shiftOf_any q _ hq4).mono ?_; rw [hqe]; rintro e w9 ⟨rfl,rfl⟩)
   all_goals rw [HOR.out]
   all_goals go_wp2
   all_goals exact ⟨⟨k+1,by omega,by go_num,HO2.out.drew,HB2.out.drew⟩,by simp [intOf]; omega⟩
  ·have hkm:k=4 * n:=by have:=HM.out; omega
   subst hkm
   rw [parts_end] at HO
   go_wp2
   go_ret
   exact ⟨rfl,HO.out,HB.out⟩
set_option maxHeartbeats 800000 in
theorem numbers_none (a:Option Addr)(c:Nat)(f:Nat→Nat)(w:World) :
  Calls Tryz.prog 162 #[.slice a 0 c] w fun e w'=>e=.returned (.slice (some ⟨w.heap.size,0,none⟩) 0 0)∧w'.ownsRow w.heap.size 3 1 (.slice (some ⟨w.heap.size,0,none⟩) 0 0) 0 (icells (numsAt f 0 0))∧Below w.heap.size w w':=by
 have hmk:=fun w=>run_make_ints 0 (by omega) w
 simp only [Int.ofNat_zero] at hmk
 have HO0:Hid ((w.alloc (.cells (icells (List.replicate 0 0)).toArray 3)).ownsRow w.heap.size 3 1 (.slice (some ⟨w.heap.size,0,none⟩) 0 0) 0 (icells (numsAt f 0 0))):=own_ints w 0 _ (by simp) (by omega)
 go_enter Tryz.func162,Tryz.ntmps162
 go_wp2
 go_loop [12] (fun i=>i=.int .i64 0) (fun i=>0 - (intOf i).toNat)
 case atStart=>exact rfl
 case round =>
  obtain rfl:=hrel
  go_wp2
  go_ret
  exact ⟨rfl,HO0.out,(Below.refl _ _).alloc (Nat.le_refl _) _⟩
theorem numbers_any (b o n c:Nat)(f:Nat→Nat)(w:World)(hn:n≤255)(hf:∀ i,i < 4 * n→f i < 256)(hcell:∀ i,i < 4 * n→w.cell? ⟨b,o+i,none⟩=some (.int .u8 (f i:Int))) :
  Calls Tryz.prog 162 #[.slice (some ⟨b,o,none⟩) (4 * n) c] w fun e w'=>e=.returned (.slice (some ⟨w.heap.size,0,none⟩) n n)∧w'.ownsRow w.heap.size 3 1 (.slice (some ⟨w.heap.size,0,none⟩) n n) n (icells (numsAt f 0 n))∧Below w.heap.size w w':=by
 by_cases h0:n=0
 ·subst h0; exact numbers_none _ c f w
 ·exact numbers_some b o n c f w hn (by omega) hf hcell
end Go.Proofs.YtogbjeaceboemaaGreatDoor
