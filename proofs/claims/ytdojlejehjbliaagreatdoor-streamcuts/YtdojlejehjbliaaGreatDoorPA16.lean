import Derived.Test.YtdojlejehjbliaaGreatDoorPA6
import Derived.Deep.RegionWith
import Derived.Deep.DrawnRows
namespace Go.Proofs.YtdojlejehjbliaaGreatDoor
set_option maxHeartbeats 6400000
open _root_.Go.World renaming block_lt_of_cell? → I
open _root_.Option renaming none → J,some → Y
open _root_.Go.Value renaming slice → V
open Go.RowKit
set_option maxRecDepth 100000
def Qja (f:Nat→Nat)(len i:Nat):Bool:=decide (i+2≤len∧(f i=1∨f i=2)∧i+2+4 * f (i+1)≤len)
def Qcm (f:Nat→Nat)(j n:Nat):List Int:=(List.range n).map fun k=>((num (fun q=>f (j+4 * k+q)):Nat):Int)
theorem Qcf (f:Nat→Nat)(j n:Nat):(Qcm f j n).length=n:=by simp [Qcm]
theorem Qe4 (f:Nat→Nat)(j n:Nat):Qcm f j (n+1)=Qcm f j n++[((num (fun q=>f (j+4 * n+q)):Nat):Int)]:=by simp [Qcm,List.range_succ]
def Qfd (f:Nat→Nat)(i:Nat):Bool×List Int:=(decide (f i=1),Qcm f (i+2) (f (i+1)))
def fin (acc:List (Bool×List Int)):Option (List (Bool×List Int)):=if Qd3 acc then Y acc else J
def Qdj (f:Nat→Nat)(len:Nat):Nat→Nat→List (Bool×List Int)→Option (List (Bool×List Int))
  | 0,_,acc=>fin acc
  | k+1,i,acc=>if i < len then if Qja f len i then Qdj f len k (i+2+4 * f (i+1)) (acc++[Qfd f i]) else J else fin acc
def Qa3 (f:Nat→Nat)(len i:Nat)(acc:List (Bool×List Int)):Option (List (Bool×List Int)):=Qdj f len (len - i) i acc
theorem Qge {f:Nat→Nat}{len i:Nat}{acc:List (Bool×List Int)} (h:¬ i < len):∀ k,Qdj f len k i acc=fin acc
  | 0=>rfl
  | k+1=>by rw [Qdj,if_neg h]
theorem Qhr (f:Nat→Nat)(len:Nat):∀ (k i:Nat) (acc:List (Bool×List Int)),len - i≤k→∀ d,Qdj f len (k+d) i acc=Qdj f len k i acc
  | 0,i,acc,h,d=>by rw [Qge (by omega),Qge (by omega)]
  | k+1,i,acc,h,d=>by
    rw [show k+1+d=(k+d)+1 from by omega,Qdj,Qdj]
    by_cases hi:i < len
    · rw [if_pos hi,if_pos hi]
      by_cases ho:Qja f len i=true
      · rw [if_pos ho,if_pos ho]
        exact Qhr f len k _ _ (by omega) d
      · rw [if_neg ho,if_neg ho]
    · rw [if_neg hi,if_neg hi]
theorem Qia {f:Nat→Nat}{len i:Nat}{acc:List (Bool×List Int)} (h:i < len) (ho:Qja f len i=true):Qa3 f len i acc=Qa3 f len (i+2+4 * f (i+1)) (acc++[Qfd f i]):=by
  unfold Qa3
  rw [show len - i=(len - i - 1)+1 from by omega,Qdj,if_pos h,if_pos ho,show len - i - 1=(len - (i+2+4 * f (i+1)))+(len - i - 1 - (len - (i+2+4 * f (i+1)))) from by omega,Qhr _ _ _ _ _ (by omega)]
theorem Qib {f:Nat→Nat}{len i:Nat}{acc:List (Bool×List Int)} (h:i < len) (ho:Qja f len i=false):Qa3 f len i acc=J:=by
  unfold Qa3
  rw [show len - i=(len - i - 1)+1 from by omega,Qdj,if_pos h,if_neg (by simp [ho])]
theorem Qew {f:Nat→Nat}{len i:Nat}{acc:List (Bool×List Int)} (h:¬ i < len):Qa3 f len i acc=fin acc:=Qge h _
def Qhi (w w':World)(r:Option (List (Bool×List Int)))(e:Ending):Prop :=
  match r with
  | none=>e=.returned (.tuple #[V J 0 0,.bool false])
  | some ss=>∃ v,e=.returned (.tuple #[v,.bool true])∧Qa7 w' w.heap.size v ss
section
variable {P:Program}{a:Act}{w w':World}{K:Act→World→Prop}{Q:Exit→Act→World→Prop}{dst:Option Tmp}{ty:TypeId}{pos:String}{after:Array Edge}{gd:Option (Nat×Bool)}
theorem Qm0 (x y:Operand):Oper.wp P { dst:=dst,op:=.call { callee:=.builtin .append,args:=#[x,y],argTypes:=#[86,86] },type:=ty,pos:=pos,after:=after,guard:=gd } a w K Q=Qdl P { dst:=dst,op:=.call { callee:=.builtin .append,args:=#[x,y],argTypes:=#[86,86] },type:=ty,pos:=pos,after:=after,guard:=gd } a w K Q:=rfl
theorem Qe5 (x y:Operand)(p q v:Value)(hx:a.eval x=p)(hy:a.eval y=q)(hr:(Builtin.append_ #[86,86] ty #[p,q]).run P w=.ok v w')(h:K (a.put dst v) w') :
    Qdl P { dst:=dst,op:=.call { callee:=.builtin .append,args:=#[x,y],argTypes:=#[86,86] },type:=ty,pos:=pos,after:=after,guard:=gd } a w K Q:=by
  unfold Qdl Oper.wp execOp
  simp only [resolve,invoke,builtin,Sem.run_bind,Sem.run_pure,Result.andThen_ok,List.map_toArray,List.map_cons,List.map_nil,hx,hy,hr]
  exact h
theorem Qi4 (x y:Operand):Oper.wp P { dst:=dst,op:=.call { callee:=.builtin .append,args:=#[x,y],argTypes:=#[30,30] },type:=ty,pos:=pos,after:=after,guard:=gd } a w K Q=Qdl P { dst:=dst,op:=.call { callee:=.builtin .append,args:=#[x,y],argTypes:=#[30,30] },type:=ty,pos:=pos,after:=after,guard:=gd } a w K Q:=rfl
theorem Qd0 (x y:Operand)(p q v:Value)(hx:a.eval x=p)(hy:a.eval y=q)(hr:(Builtin.append_ #[30,30] ty #[p,q]).run P w=.ok v w')(h:K (a.put dst v) w') :
    Qdl P { dst:=dst,op:=.call { callee:=.builtin .append,args:=#[x,y],argTypes:=#[30,30] },type:=ty,pos:=pos,after:=after,guard:=gd } a w K Q:=by
  unfold Qdl Oper.wp execOp
  simp only [resolve,invoke,builtin,Sem.run_bind,Sem.run_pure,Result.andThen_ok,List.map_toArray,List.map_cons,List.map_nil,hx,hy,hr]
  exact h
end
structure Qj5 (w0 w:World) (X:Nat) (b:Bool) (u:Value) (zs:List Int):Prop where
  own:w.ownsRow (X+1) 3 1 u zs.length (Qbi zs)
  bel:Below X w0 w
  c0:w.cell? ⟨X,0,J⟩=Y (.bool b)
  c1:w.cell? ⟨X,1,J⟩=Y u
  fz:∀ j,w.frozen? ⟨X,j,J⟩=false
theorem Qnl (w0:World)(b:Bool):Qj5 w0 (w0.alloc (.cells #[.bool b,V J 0 0] 134)) w0.heap.size b (V J 0 0) [] :=
  ⟨Qbm _ _ _ _,(Below.refl _ _).alloc (Nat.le_refl _) _,by simp [go_sem],by simp [go_sem],fun j=>by simp [go_sem]⟩
theorem Qj5.later {w0 w w':World}{X:Nat}{b:Bool}{u:Value}{zs:List Int} (h:Qj5 w0 w X b u zs) (hb:Below w.heap.size w w'):Qj5 w0 w' X b u zs:=by
  have hX:=I w _ h.c0
  simp only at hX
  exact ⟨Qaq h.own hb,h.bel.trans (hb.mono (by omega)),by rw [hb.cell (p:=⟨X,0,J⟩) (by exact hX)]; exact h.c0,by rw [hb.cell (p:=⟨X,1,J⟩) (by exact hX)]; exact h.c1,fun j=>by rw [hb.frozen (p:=⟨X,j,J⟩) (by exact hX)]; exact h.fz j⟩
theorem Qj5.more {w0 w:World}{X:Nat}{b:Bool}{u:Value}{zs:List Int} (h:Qj5 w0 w X b u zs) (x:Int) (hl:zs.length≤100000) :
    ∃ g3 c3 w3,(Builtin.append_ #[86,86] 86 #[u,V (Y ⟨w.heap.size,0,J⟩) 1 1]).run Tryz.prog (w.alloc (.cells #[.int .i64 x] 3))=.ok (V (Y ⟨g3,0,J⟩) (zs.length+1) c3) w3∧w3.cell? ⟨X,1,J⟩=Y u∧w3.frozen? ⟨X,1,J⟩=false∧Qj5 w0 (w3.setCell ⟨X,1,J⟩ (V (Y ⟨g3,0,J⟩) (zs.length+1) c3)) X b (V (Y ⟨g3,0,J⟩) (zs.length+1) c3) (zs++[x]):=by
  have hX:=I w _ h.c0
  simp only at hX
  obtain ⟨v3,w3,hr,ho,hb⟩:=Qig elemInt h.own (by omega) 1 (Qbi [x]) rfl (Qlf _) (by omega) w.heap.size rfl
  have e0:w3.cell? ⟨X,0,J⟩=Y (.bool b):=by rw [World.cell?_of_block (w:=w) (hb.block X (by omega))]; exact h.c0
  have e1:w3.cell? ⟨X,1,J⟩=Y u:=by rw [World.cell?_of_block (w:=w) (hb.block X (by omega))]; exact h.c1
  have ef:∀ j,w3.frozen? ⟨X,j,J⟩=false:=fun j=>by rw [World.frozen?_of_block (w:=w) (hb.block X (by omega))]; exact h.fz j
  obtain ⟨g3,c3,rfl,_,_⟩:=ho.form (by omega)
  refine ⟨g3,c3,w3,hr,e1,ef 1,⟨?_,?_,?_,?_,fun j=>by rw [World.frozen?_setCell]; exact ef j⟩⟩
  · rw [Qkx,List.length_append]
    refine ⟨ho.1,?_⟩
    rcases ho.2 with hh | ⟨g,cap,cur,ev,hg,hc,rest⟩
    · exact .inl hh
    · refine .inr ⟨g,cap,cur,ev,hg,?_,rest⟩
      rw [Qbk w3 X 1 _ g (by omega)]
      exact hc
  · exact (h.bel.trans (hb.mono (by omega))).setCell (Nat.le_refl _) _
  · rw [World.cell?_setCell_other _ _ _ _ (by intro e; injection e with _ e2 _; omega)]; exact e0
  · rw [World.cell?_setCell_same _ _ _ e1]
theorem Qlz {w:World}{B e size n:Nat}{u:Value}{xs:List Value} (h:w.ownsRow B e size u n xs):u.oneCell'=true:=by
  rcases h.2 with ⟨rfl,_⟩ | ⟨g,cap,cur,rfl,_⟩ <;> rfl
section
attribute [local go_sem ↓] Go.wp_at_zero Go.wp_at_succ Qm0 Qi4
theorem Qsm (b off len cap:Nat)(f:Nat→Nat)(w:World)(hl:len≤10000)(hlc:len≤cap)(hf:∀ j,j < len→f j < 256)(hcell:∀ j,j < len→w.cell? ⟨b,off+j,J⟩=Y (.int .u8 (f j:Int))) :
    Calls Tryz.prog 72 #[V (Y ⟨b,off,J⟩) len cap] w fun e w'=>Qhi w w' (Qa3 f len 0 []) e∧Below w.heap.size w w':=by
  have HC:=Qaa hcell
  have HF:=Qaa hf
  clear hcell hf
  go_enter Tryz.func72,Tryz.ntmps72
  go_wp2
  go_loopw [4,5] (fun v s wq=>∃ (i:Nat) (acc:List (Bool×List Int)),s=.int .i64 (i:Int)∧i≤len∧Hid (Qa7 wq w.heap.size v acc)∧Hid (Below w.heap.size w wq)∧Hid (Qa3 f len 0 []=Qa3 f len i acc)∧acc.length+sumP acc≤i) (fun _ s _=>len - (intOf s).toNat)
  case atStart=>exact ⟨0,[],rfl,Nat.zero_le _,Qa7.nil _ _,Below.refl _ _,rfl,Nat.le_refl _⟩
  case round =>
    obtain ⟨i,acc,rfl,hi,HO,HB,HE,hal⟩:=hrel
    obtain ⟨wo,hwo⟩:∃ wo:World,wo=wr:=⟨wr,rfl⟩
    subst hwo
    by_cases hlt:i < len
    · have hcw:Hid (∀ j,j < len→wo.cell? ⟨b,off+j,J⟩=Y (.int .u8 (f j:Int))):=fun j hj=>by
        rw [HB.out.cell (p:=⟨b,off+j,J⟩) (I w _ (HC.out j hj))]
        exact HC.out j hj
      have hci:=hcw.out i hlt
      have hfi:=HF.out i hlt
      have hi0:(0:Int)≤(i:Int):=Int.natCast_nonneg _
      have hi1:(i:Int) < (len:Int):=by omega
      cases hk:Qja f len i with
      | false =>
        have HN:Hid (Qa3 f len 0 []=J):=by show Qa3 f len 0 []=J; rw [HE.out,Qib hlt hk]
        have hok:=of_decide_eq_false hk
        clear hk
        by_cases h2:len < i+2
        · have j2:(len:Int) < (i:Int)+2:=by omega
          clear hok
          go_wp2
          go_ret2
          exact ⟨by rw [HN.out]; rfl,HB.out⟩
        · have d2:decide ((len:Int) < (i:Int)+2)=false:=decide_eq_false (by omega)
          by_cases h3:f i=1∨f i=2
          · have hci1:=hcw.out (i+1) (by omega)
            have hfi1:=HF.out (i+1) (by omega)
            have h4:len < i+2+4 * f (i+1):=by omega
            generalize f (i+1)=n at *
            have j4:(len:Int) < (i:Int)+2+4 * (n:Int):=by omega
            have j5:(0:Int)≤(i:Int)+1:=by omega
            have j6:(i:Int)+1 < (len:Int):=by omega
            rcases h3 with h3 | h3
            · rw [h3] at hci
              clear hok h2 h3 h4
              go_wp2
              go_ret2
              exact ⟨by rw [HN.out]; rfl,HB.out⟩
            · rw [h3] at hci
              clear hok h2 h3 h4
              go_wp2
              go_ret2
              exact ⟨by rw [HN.out]; rfl,HB.out⟩
          · have e1:((f i:Int) != 1)=true:=by simp; omega
            have e2:((f i:Int) != 2)=true:=by simp; omega
            clear hok h2 h3
            go_wp2
            go_ret2
            exact ⟨by rw [HN.out]; rfl,HB.out⟩
      | true =>
        obtain ⟨ho1,ho2,ho3⟩:=of_decide_eq_true hk
        have HE1:Hid (Qa3 f len 0 []=Qa3 f len (i+2+4 * f (i+1)) (acc++[Qfd f i])):=by show Qa3 f len 0 []=_; rw [HE.out,Qia hlt hk]
        clear hk HE
        have hci1:=hcw.out (i+1) (by omega)
        have hfi1:=HF.out (i+1) (by omega)
        have HSEG:Hid (Qfd f i=(decide (f i=1),Qcm f (i+2) (f (i+1)))):=rfl
        generalize hfn:f (i+1)=n at *
        clear hfn
        have d2:decide ((len:Int) < (i:Int)+2)=false:=decide_eq_false (by omega)
        have d4:decide ((len:Int) < (i:Int)+2+4 * (n:Int))=false:=decide_eq_false (by omega)
        have j5:(0:Int)≤(i:Int)+1:=by omega
        have j6:(i:Int)+1 < (len:Int):=by omega
        rcases ho2 with h3 | h3
        · rw [h3] at hci HSEG hfi
          clear h3
          have HSG:Hid (Qfd f i=(true,Qcm f (i+2) n)):=HSEG.out
          clear HSEG
          go_wp2
          have HQ0:Hid (Qj5 wo (wo.alloc (.cells #[.bool true,V J 0 0] 134)) wo.heap.size true (V J 0 0) (Qcm f (i+2) 0)):=Qnl wo true
          go_loopw [7] (fun j wq=>∃ k:Nat,k≤n∧j=.int .i64 k∧Hid (∃ u,Qj5 wo wq wo.heap.size true u (Qcm f (i+2) k))) (fun j _=>n - (intOf j).toNat)
          case atStart=>exact ⟨0,Nat.zero_le _,rfl,⟨_,HQ0.out⟩⟩
          case round =>
            clear HQ0
            obtain ⟨k,hk,rfl,HQ⟩:=hrel
            obtain ⟨u,hs⟩:=HQ.out
            have hz:wo.heap.size < wr.heap.size:=by have:=I wr _ hs.c0; simpa using this
            have HW:Hid (∀ j,j < len→wr.cell? ⟨b,off+j,J⟩=Y (.int .u8 (f j:Int))):=fun j hj=>by
              rw [hs.bel.cell (p:=⟨b,off+j,J⟩) (I wo _ (hcw.out j hj))]
              exact hcw.out j hj
            have hd1:wr.cell? ⟨b,off+(i+1),J⟩=Y (.int .u8 (n:Int)):=by
              rw [hs.bel.cell (p:=⟨b,off+(i+1),J⟩) (I wo _ hci1)]
              exact hci1
            have q0:=hs.c0
            have q1:=hs.c1
            have z1:=hs.fz 1
            have HSS:=Qaa hs
            clear hs HQ
            by_cases hkn:k < n
            · have hk0:(0:Int)≤(k:Int):=Int.natCast_nonneg _
              have hk1:(k:Int) < (n:Int):=by omega
              have wA:IntKind.i64.wrap ((i:Int)+2)=(i:Int)+2:=by rw [IntKind.wrap_i64]; omega
              have wB:IntKind.i64.wrap (4 * (k:Int))=4 * (k:Int):=by rw [IntKind.wrap_i64]; omega
              have wC:IntKind.i64.wrap ((i:Int)+2+4 * (k:Int))=((i+2+4 * k:Nat):Int):=by rw [IntKind.wrap_i64]; omega
              have hne:¬ cap=i+2+4 * k:=by omega
              have s0:(0:Int)≤((i+2+4 * k:Nat):Int):=Int.natCast_nonneg _
              have s1:((i+2+4 * k:Nat):Int)≤(len:Int):=by omega
              have s2:(len:Int)≤(cap:Int):=by omega
              have HNX:=Qaa (Qe4 f (i+2) k)
              have HNB:Hid (∀ q,q < 4→f (i+2+4 * k+q) < 256):=fun q hq=>HF.out _ (by omega)
              have HNC:Hid (∀ q,q < 4→wr.cell? ⟨b,off+(i+2+4 * k)+q,J⟩=Y (.int .u8 (f (i+2+4 * k+q):Int))):=fun q hq=>by rw [Nat.add_assoc]; exact HW.out _ (by omega)
              have hpl:4≤len - (i+2+4 * k):=by omega
              go_wp2_with fail
              go_region_with (first
                | (go_at_call 25; refine (Qf5 b (off+(i+2+4 * k)) (len - (i+2+4 * k)) (cap - (i+2+4 * k)) (fun q=>f (i+2+4 * k+q)) wr.drew hpl HNB.out (fun q hq=>HNC.out q hq)).mono ?_; rintro e w9 ⟨rfl,hw9⟩
                   have hb9:Below wr.heap.size wr w9:=(by obtain ⟨k4,rfl⟩:=hw9; exact Qaj (Below.refl _ _).drew k4)
                   have HS9:=Qaa (HSS.out.later hb9)
                   have q19:=HS9.out.c1
                   have hz9:wo.heap.size < w9.heap.size:=Nat.lt_of_lt_of_le hz hb9.size
                   obtain ⟨g3,c3,w3,hr3,t1,tz,hs3⟩:=HS9.out.more ((num (fun q=>f (i+2+4 * k+q)):Nat):Int) (by rw [Qcf]; omega)
                   rw [Qcf] at hr3 hs3
                   rw [← Qe4] at hs3
                   have HR3:=Qaa hr3
                   have HS3:=Qaa hs3
                   clear hr3 hs3 hw9 hb9)
                | (refine Qe5 _ _ u (V (Y ⟨w9.heap.size,0,J⟩) 1 1) (V (Y ⟨g3,0,J⟩) (k+1) c3) (w':=w3) (by rfl) (by rfl) (by exact HR3.out) ?_))
              all_goals go_wp2
              all_goals exact ⟨⟨k+1,by omega,by go_num,⟨_,HS3.out⟩⟩,by simp [intOf]; omega⟩
            · have hk2:k=n:=by omega
              subst hk2
              clear hkn hk
              have HO2:=Qaa (HO.out.later HSS.out.bel)
              have hB2:=HB.out.size
              obtain ⟨v9,w9,hr9,ho9,hb9⟩:=HO2.out.snoc (b:=true) (Qan HSS.out.own (by omega)) (Qlz HSS.out.own) (by omega) (by omega) wr.heap.size rfl
              have HB9:=Qaa ((HB.out.trans (HSS.out.bel.mono hB2)).trans hb9)
              have HR9:=Qaa hr9
              have HO9:=Qaa ho9
              have hd9:w9.cell? ⟨b,off+(i+1),J⟩=Y (.int .u8 (k:Int)):=by
                rw [hb9.cell (p:=⟨b,off+(i+1),J⟩) (by have h8:=I w _ (HC.out i hlt); exact h8)]
                exact hd1
              clear hr9 ho9 hb9
              go_wp2
              refine Qd0 _ _ _ (V (Y ⟨wr.heap.size,0,J⟩) 1 1) v9 (w':=w9) (by rfl) (by rfl) (by exact HR9.out) ?_
              go_wp2
              exact ⟨⟨i+2+4 * k,acc++[(true,Qcm f (i+2) k)],by go_num,ho3,HO9,HB9,by have h8:=HE1.out; rw [HSG.out] at h8; exact h8,by rw [List.length_append,Qf9,Qcf]; simp only [List.length_cons,List.length_nil]; omega⟩,by simp [intOf]; omega⟩
        · rw [h3] at hci HSEG hfi
          clear h3
          have HSG:Hid (Qfd f i=(false,Qcm f (i+2) n)):=HSEG.out
          clear HSEG
          go_wp2
          have HQ0:Hid (Qj5 wo (wo.alloc (.cells #[.bool false,V J 0 0] 134)) wo.heap.size false (V J 0 0) (Qcm f (i+2) 0)):=Qnl wo false
          go_loopw [7] (fun j wq=>∃ k:Nat,k≤n∧j=.int .i64 k∧Hid (∃ u,Qj5 wo wq wo.heap.size false u (Qcm f (i+2) k))) (fun j _=>n - (intOf j).toNat)
          case atStart=>exact ⟨0,Nat.zero_le _,rfl,⟨_,HQ0.out⟩⟩
          case round =>
            clear HQ0
            obtain ⟨k,hk,rfl,HQ⟩:=hrel
            obtain ⟨u,hs⟩:=HQ.out
            have hz:wo.heap.size < wr.heap.size:=by have:=I wr _ hs.c0; simpa using this
            have HW:Hid (∀ j,j < len→wr.cell? ⟨b,off+j,J⟩=Y (.int .u8 (f j:Int))):=fun j hj=>by
              rw [hs.bel.cell (p:=⟨b,off+j,J⟩) (I wo _ (hcw.out j hj))]
              exact hcw.out j hj
            have hd1:wr.cell? ⟨b,off+(i+1),J⟩=Y (.int .u8 (n:Int)):=by
              rw [hs.bel.cell (p:=⟨b,off+(i+1),J⟩) (I wo _ hci1)]
              exact hci1
            have q0:=hs.c0
            have q1:=hs.c1
            have z1:=hs.fz 1
            have HSS:=Qaa hs
            clear hs HQ
            by_cases hkn:k < n
            · have hk0:(0:Int)≤(k:Int):=Int.natCast_nonneg _
              have hk1:(k:Int) < (n:Int):=by omega
              have wA:IntKind.i64.wrap ((i:Int)+2)=(i:Int)+2:=by rw [IntKind.wrap_i64]; omega
              have wB:IntKind.i64.wrap (4 * (k:Int))=4 * (k:Int):=by rw [IntKind.wrap_i64]; omega
              have wC:IntKind.i64.wrap ((i:Int)+2+4 * (k:Int))=((i+2+4 * k:Nat):Int):=by rw [IntKind.wrap_i64]; omega
              have hne:¬ cap=i+2+4 * k:=by omega
              have s0:(0:Int)≤((i+2+4 * k:Nat):Int):=Int.natCast_nonneg _
              have s1:((i+2+4 * k:Nat):Int)≤(len:Int):=by omega
              have s2:(len:Int)≤(cap:Int):=by omega
              have HNX:=Qaa (Qe4 f (i+2) k)
              have HNB:Hid (∀ q,q < 4→f (i+2+4 * k+q) < 256):=fun q hq=>HF.out _ (by omega)
              have HNC:Hid (∀ q,q < 4→wr.cell? ⟨b,off+(i+2+4 * k)+q,J⟩=Y (.int .u8 (f (i+2+4 * k+q):Int))):=fun q hq=>by rw [Nat.add_assoc]; exact HW.out _ (by omega)
              have hpl:4≤len - (i+2+4 * k):=by omega
              go_wp2_with fail
              go_region_with (first
                | (go_at_call 25; refine (Qf5 b (off+(i+2+4 * k)) (len - (i+2+4 * k)) (cap - (i+2+4 * k)) (fun q=>f (i+2+4 * k+q)) wr.drew hpl HNB.out (fun q hq=>HNC.out q hq)).mono ?_; rintro e w9 ⟨rfl,hw9⟩
                   have hb9:Below wr.heap.size wr w9:=(by obtain ⟨k4,rfl⟩:=hw9; exact Qaj (Below.refl _ _).drew k4)
                   have HS9:=Qaa (HSS.out.later hb9)
                   have q19:=HS9.out.c1
                   have hz9:wo.heap.size < w9.heap.size:=Nat.lt_of_lt_of_le hz hb9.size
                   obtain ⟨g3,c3,w3,hr3,t1,tz,hs3⟩:=HS9.out.more ((num (fun q=>f (i+2+4 * k+q)):Nat):Int) (by rw [Qcf]; omega)
                   rw [Qcf] at hr3 hs3
                   rw [← Qe4] at hs3
                   have HR3:=Qaa hr3
                   have HS3:=Qaa hs3
                   clear hr3 hs3 hw9 hb9)
                | (refine Qe5 _ _ u (V (Y ⟨w9.heap.size,0,J⟩) 1 1) (V (Y ⟨g3,0,J⟩) (k+1) c3) (w':=w3) (by rfl) (by rfl) (by exact HR3.out) ?_))
              all_goals go_wp2
              all_goals exact ⟨⟨k+1,by omega,by go_num,⟨_,HS3.out⟩⟩,by simp [intOf]; omega⟩
            · have hk2:k=n:=by omega
              subst hk2
              clear hkn hk
              have HO2:=Qaa (HO.out.later HSS.out.bel)
              have hB2:=HB.out.size
              obtain ⟨v9,w9,hr9,ho9,hb9⟩:=HO2.out.snoc (b:=false) (Qan HSS.out.own (by omega)) (Qlz HSS.out.own) (by omega) (by omega) wr.heap.size rfl
              have HB9:=Qaa ((HB.out.trans (HSS.out.bel.mono hB2)).trans hb9)
              have HR9:=Qaa hr9
              have HO9:=Qaa ho9
              have hd9:w9.cell? ⟨b,off+(i+1),J⟩=Y (.int .u8 (k:Int)):=by
                rw [hb9.cell (p:=⟨b,off+(i+1),J⟩) (by have h8:=I w _ (HC.out i hlt); exact h8)]
                exact hd1
              clear hr9 ho9 hb9
              go_wp2
              refine Qd0 _ _ _ (V (Y ⟨wr.heap.size,0,J⟩) 1 1) v9 (w':=w9) (by rfl) (by rfl) (by exact HR9.out) ?_
              go_wp2
              exact ⟨⟨i+2+4 * k,acc++[(false,Qcm f (i+2) k)],by go_num,ho3,HO9,HB9,by have h8:=HE1.out; rw [HSG.out] at h8; exact h8,by rw [List.length_append,Qf9,Qcf]; simp only [List.length_cons,List.length_nil]; omega⟩,by simp [intOf]; omega⟩
    · have HN:Hid (Qa3 f len 0 []=fin acc):=by show Qa3 f len 0 []=fin acc; rw [HE.out,Qew hlt]
      obtain ⟨a9,c9,e9,hrd⟩:=HO.out.rd (by omega) (fun s hs=>by have:=Qhe acc s hs; omega)
      subst e9
      have HRG:=Qaa (Qnx a9 c9 acc wo (by omega) hrd)
      clear hrd
      generalize hal2:acc.length=al at *
      go_wp2_with fail
      refine HRG.out.mono ?_
      cases hg:Qd3 acc with
      | false =>
        have HN2:Hid (Qa3 f len 0 []=J):=by show Qa3 f len 0 []=J; rw [HN.out,fin,hg]; rfl
        clear hg
        rintro e w1 ⟨rfl,hw1⟩
        subst hw1
        go_wp2
        go_ret2
        exact ⟨by rw [HN2.out]; rfl,HB.out⟩
      | true =>
        have HN2:Hid (Qa3 f len 0 []=Y acc):=by show Qa3 f len 0 []=Y acc; rw [HN.out,fin,hg]; rfl
        clear hg
        rintro e w1 ⟨rfl,hw1⟩
        subst hw1
        go_wp2
        go_ret2
        exact ⟨by rw [HN2.out]; exact ⟨_,rfl,HO.out⟩,HB.out⟩
end
theorem Qo9 (a:Option Addr)(cap:Nat)(f:Nat→Nat)(w:World) :
    Calls Tryz.prog 72 #[V a 0 cap] w fun e w'=>Qhi w w' (Qa3 f 0 0 []) e∧Below w.heap.size w w':=by
  have HN:Hid (Qa3 f 0 0 []=Y []):=by
    show Qa3 f 0 0 []=Y []
    rw [Qew (by omega)]
    rfl
  obtain ⟨a9,c9,e9,hrd⟩:=(Qa7.nil w w.heap.size).rd (by simp) (by simp)
  have HRG:=Qaa (Qnx a9 c9 [] w (by simp [sumP]) hrd)
  clear hrd
  simp only [List.length_nil,Value.slice.injEq] at e9
  obtain ⟨rfl,_,rfl⟩:=e9
  go_enter Tryz.func72,Tryz.ntmps72
  go_wp2
  go_loopw [4,5] (fun v s wq=>v=V J 0 0∧s=.int .i64 0∧wq=w) (fun _ s _=>(intOf s).toNat)
  case atStart=>exact ⟨rfl,rfl,rfl⟩
  case round =>
    obtain ⟨rfl,rfl,rfl⟩:=hrel
    go_wp2_with fail
    refine HRG.out.mono ?_
    rintro e w1 ⟨rfl,hw1⟩
    subst hw1
    go_wp2
    go_ret2
    exact ⟨by rw [HN.out]; exact ⟨_,rfl,Qa7.nil _ _⟩,Below.refl _ _⟩
theorem Qnz (a:Option Addr)(len cap:Nat)(f:Nat→Nat)(w:World)(hl:len≤10000)(hlc:len≤cap)(hf:∀ j,j < len→f j < 256)(h:Rw w a len f) :
    Calls Tryz.prog 72 #[V a len cap] w fun e w'=>Qhi w w' (Qa3 f len 0 []) e∧Below w.heap.size w w':=by
  by_cases h0:len=0
  · subst h0; exact Qo9 a cap f w
  · obtain ⟨b,off,rfl,hc⟩:=h.2 (by omega)
    exact Qsm b off len cap f w hl hlc hf hc
abbrev Res:Type:=(Nat×Nat×List Nat) ⊕ At
def Qmp (r:Res)(f:At→Res):Res :=
 match r with
 | .inl n=>.inl n
 | .inr a=>f a
theorem Ql3 (n:Nat×Nat×List Nat)(f:At→Res):Qmp (.inl n) f=.inl n:=rfl
theorem Qmg (a:At)(f:At→Res):Qmp (.inr a) f=f a:=rfl
theorem Qjk (r:Res)(f g:At→Res)(h:∀ a,f a=g a):Qmp r f=Qmp r g:=by
 cases r with
 | inl n=>rfl
 | inr a=>exact h a
def Qh6 (ty:Nat):Nat:=if ty=4 then 128 else if ty=7∨ty=8 then 192 else 64
def Qf8 (d:List Nat):Nat:=num (fun q=>d.getD q 0)
def Qcl (d:List Nat):List Nat:=(List.range (d.length / 4)).map fun k=>num (fun q=>d.getD (4 * k+q) 0)
def Qf7 (r:Int×Int×List Nat):List (Int×Int×List Nat)→List (Int×Int×List Nat)
 | []=>[r]
 | x :: l=>if r.2.1 < x.2.1 then r :: x :: l else x :: Qf7 r l
def Qbz (ty:Nat)(d:List Nat):Bool:=decide (ty=1∧d.length≠1∨(ty=3∨ty=4∨ty=5)∧d.length≠4∨ty=6∧d.length≠0∨ty=7∧d.length≠8∨ty=8∧(d.length=0∨d.length % 4≠0))
def Qc8 (a:At)(fl ty:Nat)(d all:List Nat):Res :=
 if fl / 64 * 64≠Qh6 ty∨fl / 32 % 2=1∧ty < 7 then .inl (3,4,all)
 else if Qbz ty d then .inl (3,5,all)
 else if ty=1 then if 2 < d.getD 0 0 then .inl (3,6,all) else .inr { a with origin:=((d.getD 0 0:Nat):Int) }
 else if ty=2 then match Qa3 (fun q=>d.getD q 0) d.length 0 [] with
  | none=>.inl (3,11,[])
  | some p=>.inr { a with path:=p }
 else if ty=3 then if Qk0 (Qf8 d) then .inr { a with next:=Qf8 d } else .inl (3,8,all)
 else if ty=4 then .inr { a with med:=((Qf8 d:Nat):Int) }
 else if ty=5 then .inr { a with pref:=((Qf8 d:Nat):Int) }
 else if ty=8 then if 128 < d.length then .inl (3,9,all) else .inr { a with comms:=a.comms++Qcl d }
 else .inr { a with raws:=Qf7 (((Qh6 ty:Nat):Int),((ty:Nat):Int),d) a.raws }
def Qdz (a:At)(fl ty:Nat)(d all:List Nat):Res :=
 if 1≤ty∧ty≤8 then Qc8 a fl ty d all
 else if fl < 128 then .inl (3,2,all)
 else if fl / 64 % 2=0 then .inr a
 else if 255 < d.length then .inl (3,9,all)
 else if 8 < ty then .inr { a with raws:=Qf7 (224,((ty:Nat):Int),d) a.raws }
 else .inr a
def Qbj (b0:Nat):Nat:=if b0 / 16 % 2=1 then 4 else 3
def Qbl (bs:List Nat):Nat:=if bs.getD 0 0 / 16 % 2=1 then 256 * bs.getD 2 0+bs.getD 3 0 else bs.getD 2 0
def Qox (bs seen:List Nat):Bool:=decide (Qbj (bs.getD 0 0)≤bs.length∧Qbj (bs.getD 0 0)+Qbl bs≤bs.length∧bs.getD 1 0 ∉ seen)
def Qps (a:At)(seen:List Nat):Res:=if 1 ∉ seen then .inl (3,3,[1]) else if 2 ∉ seen then .inl (3,3,[2]) else if 3 ∉ seen then .inl (3,3,[3]) else .inr a
def fuelA:Nat→List Nat→At→List Nat→Res
 | 0,_,a,seen=>Qps a seen
 | k+1,bs,a,seen =>
  if bs=[] then Qps a seen
  else if Qox bs seen then
   Qmp (Qdz a (bs.getD 0 0) (bs.getD 1 0) ((bs.drop (Qbj (bs.getD 0 0))).take (Qbl bs)) (bs.take (Qbj (bs.getD 0 0)+Qbl bs))) fun a'=>fuelA k (bs.drop (Qbj (bs.getD 0 0)+Qbl bs)) a' (bs.getD 1 0 :: seen)
  else .inl (3,1,[])
theorem Qhj (b0:Nat):3≤Qbj b0:=by unfold Qbj; split <;> omega
theorem Qmw (a:At)(seen:List Nat):∀ k,fuelA k [] a seen=Qps a seen
 | 0=>rfl
 | k+1=>by rw [fuelA,if_pos rfl]
theorem fuelA_more:∀ (k:Nat)(bs:List Nat)(a:At)(seen:List Nat),bs.length≤k→∀ d,fuelA (k+d) bs a seen=fuelA k bs a seen
 | 0,bs,a,seen,h,d=>by
  have h0:bs=[]:=List.length_eq_zero_iff.1 (by omega)
  subst h0
  rw [Qmw,Qmw]
 | k+1,bs,a,seen,h,d=>by
  rw [show k+1+d=(k+d)+1 from by omega,fuelA,fuelA]
  by_cases h0:bs=[]
  ·rw [if_pos h0,if_pos h0]
  ·rw [if_neg h0,if_neg h0]
   by_cases hf:Qox bs seen=true
   ·rw [if_pos hf,if_pos hf]
    refine Qjk _ _ _ (fun a'=>fuelA_more k _ _ _ ?_ d)
    have:=Qhj (bs.getD 0 0)
    rw [List.length_drop]
    have:0 < bs.length:=List.length_pos_iff.2 h0
    omega
   ·rw [if_neg hf,if_neg hf]
def Qpp (bs:List Nat)(a:At)(seen:List Nat):Res:=fuelA bs.length bs a seen
theorem Qgp (a:At)(seen:List Nat):Qpp [] a seen=Qps a seen:=rfl
theorem Qkg {bs:List Nat}{a:At}{seen:List Nat} (h0:bs≠[]) (h:Qox bs seen=false):Qpp bs a seen=.inl (3,1,[]):=by
 unfold Qpp
 have hp:0 < bs.length:=List.length_pos_iff.2 h0
 obtain ⟨n,hn⟩:∃ n,bs.length=n+1:=⟨bs.length - 1,by omega⟩
 rw [hn,fuelA,if_neg h0,if_neg (by simp [h])]
theorem Qmh {bs:List Nat}{a:At}{seen:List Nat} (h0:bs≠[]) (h:Qox bs seen=true):Qpp bs a seen =
  Qmp (Qdz a (bs.getD 0 0) (bs.getD 1 0) ((bs.drop (Qbj (bs.getD 0 0))).take (Qbl bs)) (bs.take (Qbj (bs.getD 0 0)+Qbl bs))) fun a'=>Qpp (bs.drop (Qbj (bs.getD 0 0)+Qbl bs)) a' (bs.getD 1 0 :: seen):=by
 have hp:0 < bs.length:=List.length_pos_iff.2 h0
 have hh:=Qhj (bs.getD 0 0)
 unfold Qpp
 obtain ⟨n,hn⟩:∃ n,bs.length=n+1:=⟨bs.length - 1,by omega⟩
 rw [hn,fuelA,if_neg h0,if_pos h]
 refine Qjk _ _ _ (fun a'=>?_)
 have hl:(bs.drop (Qbj (bs.getD 0 0)+Qbl bs)).length≤n:=by rw [List.length_drop]; omega
 have:=fuelA_more _ (bs.drop (Qbj (bs.getD 0 0)+Qbl bs)) a' (bs.getD 1 0 :: seen) (Nat.le_refl _) (n - (bs.drop (Qbj (bs.getD 0 0)+Qbl bs)).length)
 rw [show (bs.drop (Qbj (bs.getD 0 0)+Qbl bs)).length+(n - (bs.drop (Qbj (bs.getD 0 0)+Qbl bs)).length)=n from by omega] at this
 exact this
def Qbv (bs:List Nat):Res:=Qpp bs ⟨0,[],0,-1,-1,[],[]⟩ []
theorem Qu4 {α β:Type}(f:α→β){l' x:List β}(h:l'.Perm x):∀ l:List α,x=l.map f→∃ m:List α,m.Perm l∧m.map f=l':=by
 induction h with
 | nil=>intro l e; exact ⟨l,List.Perm.refl _,e.symm⟩
 | cons a _ ih =>
  intro l e
  cases l with
  | nil=>simp at e
  | cons b l =>
   simp only [List.map_cons,List.cons.injEq] at e
   obtain ⟨m,hm,he⟩:=ih l e.2
   exact ⟨b :: m,hm.cons b,by rw [List.map_cons,he,e.1]⟩
 | swap a b t =>
  intro l e
  match l,e with
  | c :: d :: l,e =>
   simp only [List.map_cons,List.cons.injEq] at e
   exact ⟨d :: c :: l,List.Perm.swap _ _ _,by rw [List.map_cons,List.map_cons,e.1,e.2.1,e.2.2]⟩
 | trans _ _ ih1 ih2 =>
  intro l e
  obtain ⟨m,hm,he⟩:=ih2 l e
  obtain ⟨m',hm',he'⟩:=ih1 m he.symm
  exact ⟨m',hm'.trans hm,he'⟩
theorem Qnq {α:Type}(key:α→Int):∀ (l m:List α),(l.Pairwise fun x y=>key x < key y)→(m.Pairwise fun x y=>key x < key y)→l.Perm m→l=m
 | [],m,_,_,h=>(List.nil_perm.1 h).symm
 | x :: l,m,h1,h2,h=>by
  cases m with
  | nil=>exact absurd h.symm (List.not_perm_nil_cons _ _ )
  | cons y m =>
   rw [List.pairwise_cons] at h1 h2
   have hxy:x=y:=by
    rcases List.mem_cons.1 (h.mem_iff.1 (List.mem_cons_self (a:=x) (l:=l))) with e | e
    ·exact e
    ·rcases List.mem_cons.1 (h.mem_iff.2 (List.mem_cons_self (a:=y) (l:=m))) with e2 | e2
     ·exact e2.symm
     ·have:=h1.1 y e2
      have:=h2.1 x e
      omega
   subst hxy
   rw [Qnq key l m h1.2 h2.2 ((List.perm_cons x).1 h)]
theorem Qvb {α R:Type}(key:α→Int)(kr:R→Int)(d':List α)(Z:List (α×R))(hp:d'.Perm (Z.map fun z=>z.1))(hs:d'.Pairwise fun x y=>key x≤key y)(hk:∀ z∈Z,key z.1=kr z.2)(S:List R)(hS:S.Perm (Z.map fun z=>z.2))(hup:S.Pairwise fun x y=>kr x < kr y) :
  ∃ Z':List (α×R),Z'.Perm Z∧Z'.map (fun z=>z.1)=d'∧Z'.map (fun z=>z.2)=S:=by
 obtain ⟨Z',h1,h2⟩:=Qu4 _ hp Z rfl
 refine ⟨Z',h1,h2,?_⟩
 have hp2:(Z'.map fun z=>z.2).Perm S:=(h1.map _).trans hS.symm
 refine Qnq kr _ _ ?_ hup hp2
 have hne:(Z'.map fun z=>z.2).Pairwise fun x y=>kr x≠kr y:=(hp2.pairwise_iff (R:=fun x y=>kr x≠kr y) (fun h e=>h e.symm)).2 (hup.imp fun h e=>by omega)
 have hle:(Z'.map fun z=>z.2).Pairwise fun x y=>kr x≤kr y:=by
  rw [List.pairwise_map]
  rw [← h2,List.pairwise_map] at hs
  refine hs.imp_of_mem (fun {a b} ha hb h=>?_)
  rw [hk a (h1.mem_iff.1 ha),hk b (h1.mem_iff.1 hb)] at h
  exact h
 exact (hle.and hne).imp fun h=>by omega
theorem Qhq (r:Int×Int×List Nat):∀ l,(Qf7 r l).Perm (l++[r])
 | []=>List.Perm.refl _
 | x :: l=>by
  rw [Qf7]
  split
  ·exact (List.perm_append_comm (l₁:=[r]) (l₂:=x :: l))
  ·exact (Qhq r l).cons x
theorem Qpd (r:Int×Int×List Nat):∀ l,(l.Pairwise fun x y=>x.2.1 < y.2.1)→(∀ x∈l,x.2.1≠r.2.1)→(Qf7 r l).Pairwise fun x y=>x.2.1 < y.2.1
 | [],_,_=>by simp [Qf7]
 | x :: l,h,hn=>by
  have hx:=hn x (by simp)
  rw [Qf7]
  by_cases e:r.2.1 < x.2.1
  ·rw [if_pos e]
   refine List.pairwise_cons.2 ⟨fun y hy=>?_,h⟩
   rcases List.mem_cons.1 hy with rfl | hy
   ·exact e
   ·have:=(List.pairwise_cons.1 h).1 y hy; omega
  ·rw [if_neg e]
   refine List.pairwise_cons.2 ⟨fun y hy=>?_,Qpd r l (List.pairwise_cons.1 h).2 (fun y hy=>hn y (List.mem_cons_of_mem _ hy))⟩
   rcases List.mem_append.1 ((Qhq r l).mem_iff.1 hy) with h1 | h1
   ·exact (List.pairwise_cons.1 h).1 y h1
   ·simp only [List.mem_cons,List.not_mem_nil,or_false] at h1
    subst h1
    omega
