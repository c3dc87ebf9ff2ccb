import Derived.Test.YtogbjeaceboemaaGreatDoorPA28
import Derived.Test.YtogbjeaceboemaaGreatDoorPA11
import Derived.BigRegion
import Derived.Test.YtogbjeaceboemaaGreatDoorPA29
import Derived.Test.YtogbjeaceboemaaGreatDoorPA12
import Derived.Deep.RegionHeld3
namespace Go.Proofs.YtogbjeaceboemaaGreatDoor
open Go.RowKit
set_option maxRecDepth 100000
set_option maxHeartbeats 1600000 in
theorem rd71_bad (X:Nat)(a:Option Addr)(n cap:Nat)(w:World)(h:n % 7≠0)(hl:n≤10000) :
  Calls Tryz.prog 48 #[.pointer (some ⟨X,0,none⟩),.int .i64 71,.slice a n cap] w fun e w'=>e=.returned (.bool false)∧w'=w:=by
 have hm:((n:Int) % 7 != 0)=true:=by
  simp
  omega
 clear h
 go_enter Tryz.func48,Tryz.ntmps48
 go_wp2
 go_ret
 exact ⟨rfl,rfl⟩
set_option maxHeartbeats 3200000 in
theorem rd71_good (X:Nat)(c:Cp)(a:Option Addr)(cap:Nat)(bs:List Nat)(w:World)(hx:CBox w X c)(hr:BRd w a bs)(hne:∀ x,a=some x→0 < bs.length→x.block≠X)(hl:bs.length≤10000)(h:bs.length % 7=0) :
  Calls Tryz.prog 48 #[.pointer (some ⟨X,0,none⟩),.int .i64 71,.slice a bs.length cap] w fun e w'=>Took X (some (putLL bs c)) e w'∧Keeps (fun b=>b=X) w w':=by
 have HR:=hide hr
 have hXs:=hx.size
 have HNE:=hide hne
 have HB5:=hide (ll_box hx false 0)
 have HK5:=hide (((Keeps.refl (fun b=>b=X) w).setCell X 7 (.bool false) (.inl rfl)).setCell X 8 (.int .i64 0) (.inl rfl))
 obtain ⟨x0,x1,x2,x3,x4,x5,x6,x7,x8⟩:=hx.cells
 have f7:=hx.free 7
 have f8:=hx.free 8
 have HN:Hid (∃ n,bs.length=n):=⟨_,rfl⟩
 obtain ⟨n,hn⟩:=HN.out
 have hmi:((n:Int) % 7 != 0)=false:=by rw [← hn]; simp; omega
 rw [hn]
 rw [hn] at hl
 have HNN:=hide hn
 have HN4:Hid (n % 7=0):=by show n % 7=0; rw [← hn]; exact h
 have HP0:Hid (putLL bs c={ c with ll:=(fstU 7 bs).isSome,lt:=(ltCp (fstU 7 bs):Int) }):=rfl
 generalize putLL bs c=pc at *
 clear hr hx hne HN hn h
 obtain ⟨four,as4,gr,rs,tm,fam,fwd,ll,lt⟩:=c
 simp only at *
 obtain ⟨fu,hfu⟩:∃ fu,fu=fstU 7 bs:=⟨_,rfl⟩
 rw [← hfu] at HP0
 have HFU:=hide hfu
 clear hfu
 go_enter Tryz.func48,Tryz.ntmps48
 go_wp2_with fail
 generalize ((w.setCell ⟨X,7,none⟩ (.bool false)).setCell ⟨X,8,none⟩ (.int .i64 0))=W at *
 clear x0 x1 x2 x3 x4 x5 x6 x7 x8 f7 f8
 go_loopw [8] (fun iv wq=>∃ (i:Nat) (fl:Bool) (L:Nat),iv=.int .i64 (i:Int)∧i≤n∧Hid (i % 7=0)∧Hid (CBox wq X ⟨four,as4,gr,rs,tm,fam,fwd,fl,(L:Int)⟩)∧Hid (Keeps (fun b=>b=X) w wq)∧Hid (fl=true∧fu.isSome=true∧ltCp fu=L∨fl=false∧L=0∧fu=fstU 7 (bs.drop i))) (fun iv _=>n - (intOf iv).toNat)
 case atStart=>exact ⟨0,false,0,rfl,by omega,rfl,HB5,HK5,.inr ⟨rfl,rfl,HFU.out⟩⟩
 case round =>
  obtain ⟨i,fm,fw,rfl,hin,HI,HB,HK,HF⟩:=hrel
  clear HB5 HK5
  by_cases hlt:i < n
  ·have hi4:i+7≤n:=by have:=HI.out; have:=HN4.out; omega
   obtain ⟨b,o,rfl,_⟩:=HR.out.1.2 (by rw [HNN.out]; omega)
   have hbX:b≠X:=HNE.out ⟨b,o,none⟩ rfl (by rw [HNN.out]; omega)
   have hxb:X≠b:=Ne.symm hbX
   have hrw:BRd wr (some ⟨b,o,none⟩) bs:=HR.out.keeps HK.out (fun x e _=>by cases e; exact hbX)
   obtain ⟨b9,o9,e9,hc⟩:=hrw.1.2 (by rw [HNN.out]; omega)
   cases e9
   have c0:wr.cell? ⟨b,o+i,none⟩=some (.int .u8 (bs.getD i 0:Int)):=hc i (by rw [HNN.out]; omega)
   have c1:wr.cell? ⟨b,o+(i+1),none⟩=some (.int .u8 (bs.getD (i+1) 0:Int)):=hc (i+1) (by rw [HNN.out]; omega)
   have c2:wr.cell? ⟨b,o+(i+2),none⟩=some (.int .u8 (bs.getD (i+2) 0:Int)):=hc (i+2) (by rw [HNN.out]; omega)
   have c4:wr.cell? ⟨b,o+(i+4),none⟩=some (.int .u8 (bs.getD (i+4) 0:Int)):=hc (i+4) (by rw [HNN.out]; omega)
   have c5:wr.cell? ⟨b,o+(i+5),none⟩=some (.int .u8 (bs.getD (i+5) 0:Int)):=hc (i+5) (by rw [HNN.out]; omega)
   have c6:wr.cell? ⟨b,o+(i+6),none⟩=some (.int .u8 (bs.getD (i+6) 0:Int)):=hc (i+6) (by rw [HNN.out]; omega)
   have g4:=getD_lt256 HR.out.2 (i+4)
   have g5:=getD_lt256 HR.out.2 (i+5)
   have g6:=getD_lt256 HR.out.2 (i+6)
   have hbw:=World.block_lt_of_cell? wr _ c0
   simp only at hbw
   obtain ⟨x0,x1,x2,x3,x4,x5,x6,x7,x8⟩:=HB.out.cells
   have f7:=HB.out.free 7
   have f8:=HB.out.free 8
   have hXw:=HB.out.size
   simp only at x0 x1 x2 x3 x4 x5 x6 x7 x8
   have hdl:(bs.drop i).length=n - i:=by rw [List.length_drop,HNN.out]
   have ht3:(bs.drop i).take 3=[bs.getD i 0,bs.getD (i+1) 0,bs.getD (i+2) 0]:=by
    rw [take3 (by omega)]
    simp only [List.getD_eq_getElem?_getD,List.getElem?_drop,Nat.add_zero]
   have HMISS:Hid (¬ (bs.getD i 0=0∧bs.getD (i+1) 0=1∧bs.getD (i+2) 0=1)→fm=true∧fu.isSome=true∧ltCp fu=fw∨fm=false∧fw=0∧fu=fstU 7 (bs.drop (i+7))):=fun hno=>by
    rcases HF.out with hh | ⟨h1,h2,h3⟩
    ·exact .inl hh
    ·refine .inr ⟨h1,h2,?_⟩
     rw [h3,fstU_miss (by omega) (by omega) (by rw [ht3]; intro h9; simp only [List.cons.injEq,and_true] at h9; exact hno h9),List.drop_drop]
   have HHIT:Hid ((bs.getD i 0=0∧bs.getD (i+1) 0=1∧bs.getD (i+2) 0=1)→fm=false→fu.isSome=true∧ltCp fu=bs.getD (i+4) 0 * 65536+bs.getD (i+5) 0 * 256+bs.getD (i+6) 0):=fun hy hf=>by
    rcases HF.out with ⟨h1,_⟩ | ⟨h1,h2,h3⟩
    ·rw [h1] at hf; cases hf
    ·rw [h3,fstU_hit (by omega) (by rw [ht3,hy.1,hy.2.1,hy.2.2])]
     refine ⟨rfl,?_⟩
     show ((bs.drop i).take 7).getD 4 0 * 65536+((bs.drop i).take 7).getD 5 0 * 256+((bs.drop i).take 7).getD 6 0=_
     have e:∀ q,q < 7→((bs.drop i).take 7).getD q 0=bs.getD (i+q) 0:=fun q hq=>by
      rw [List.getD_eq_getElem?_getD,List.getElem?_take_of_lt hq,List.getElem?_drop,List.getD_eq_getElem?_getD]
     rw [e 4 (by omega),e 5 (by omega),e 6 (by omega)]
   generalize bs.getD i 0=t0 at *
   generalize bs.getD (i+1) 0=t1 at *
   generalize bs.getD (i+2) 0=t2 at *
   generalize bs.getD (i+4) 0=t4 at *
   generalize bs.getD (i+5) 0=t5 at *
   generalize bs.getD (i+6) 0=t6 at *
   have l0:(0:Int)≤(i:Int):=Int.natCast_nonneg _
   have l1:(i:Int) < (n:Int):=by omega
   have l2:(i:Int)+1 < (n:Int):=by omega
   have l3:(i:Int)+2 < (n:Int):=by omega
   have l4:(i:Int)+4 < (n:Int):=by omega
   have l5:(i:Int)+5 < (n:Int):=by omega
   have l6:(i:Int)+6 < (n:Int):=by omega
   have n0:i < n:=hlt
   have n4:i+4 < n:=by omega
   have n5:i+5 < n:=by omega
   have n6:i+6 < n:=by omega
   have v1:IntKind.i64.wrap ((i:Int)+4)=(i:Int)+4:=by rw [IntKind.wrap_i64]; omega
   have v2:IntKind.i64.wrap ((i:Int)+5)=(i:Int)+5:=by rw [IntKind.wrap_i64]; omega
   have v3:IntKind.i64.wrap ((i:Int)+6)=(i:Int)+6:=by rw [IntKind.wrap_i64]; omega
   clear hc hrw ht3 hdl
   by_cases e0:t0=0
   ·by_cases e1:t1=1
    ·by_cases e2:t2=1
     ·cases fm with
      | true =>
       have HF2:Hid (true=true∧fu.isSome=true∧ltCp fu=fw∨true=false∧fw=0∧fu=fstU 7 (bs.drop (i+7))):=by
        rcases HF.out with hh | ⟨h1,_⟩
        ·exact .inl hh
        ·cases h1
       subst e0 e1 e2
       clear HMISS HHIT HF
       go_wp2
       exact ⟨⟨i+7,true,fw,by go_num,by omega,by have:=HI.out; show (i+7) % 7=0; omega,HB,HK,HF2⟩,by simp [intOf]; omega⟩
      | false =>
       obtain ⟨k1,k2⟩:=HHIT.out ⟨e0,e1,e2⟩ rfl
       obtain ⟨L2,hL2⟩:∃ L2,L2=t4 * 65536+t5 * 256+t6:=⟨_,rfl⟩
       rw [← hL2] at k2
       have HKK:Hid (fu.isSome=true∧ltCp fu=L2):=⟨k1,k2⟩
       have HB2:=hide (ll_box HB.out true (L2:Int))
       have HK2:=hide ((HK.out.setCell X 7 (.bool true) (.inl rfl)).setCell X 8 (.int .i64 (L2:Int)) (.inl rfl))
       have HL2:Hid (65536 * (t4:Int)+256 * (t5:Int)+(t6:Int)=(L2:Int)):=by show _=_; omega
       subst e0 e1 e2
       clear HMISS HHIT HF k1 k2 hL2
       go_wp2_with fail
       go_region
       rw [HL2.out]
       go_wp2
       exact ⟨⟨i+7,true,L2,by go_num,by omega,by have:=HI.out; show (i+7) % 7=0; omega,HB2.out.block rfl,HK2.out.drew,.inl ⟨rfl,HKK.out.1,HKK.out.2⟩⟩,by simp [intOf]; omega⟩
     ·have HF2:=hide (HMISS.out (fun h=>e2 h.2.2))
      have i2:((t2:Int) == 1)=false:=by simp; omega
      subst e0 e1
      clear HMISS HHIT HF e2
      go_wp2
      exact ⟨⟨i+7,fm,fw,by go_num,by omega,by have:=HI.out; show (i+7) % 7=0; omega,HB,HK,HF2⟩,by simp [intOf]; omega⟩
    ·have HF2:=hide (HMISS.out (fun h=>e1 h.2.1))
     have i1:((t1:Int) == 1)=false:=by simp; omega
     subst e0
     clear HMISS HHIT HF e1
     go_wp2
     exact ⟨⟨i+7,fm,fw,by go_num,by omega,by have:=HI.out; show (i+7) % 7=0; omega,HB,HK,HF2⟩,by simp [intOf]; omega⟩
   ·have HF2:=hide (HMISS.out (fun h=>e0 h.1))
    have i0:((t0:Int) == 0)=false:=by simp; omega
    clear HMISS HHIT HF e0
    go_wp2
    exact ⟨⟨i+7,fm,fw,by go_num,by omega,by have:=HI.out; show (i+7) % 7=0; omega,HB,HK,HF2⟩,by simp [intOf]; omega⟩
  ·have HQ:Hid (pc=⟨four,as4,gr,rs,tm,fam,fwd,fm,(fw:Int)⟩):=by
    show pc=_
    rw [HP0.out]
    rcases HF.out with ⟨h1,h2,h3⟩ | ⟨h1,h2,h3⟩
    ·rw [h2,h3,h1]
    ·rw [h3,fstU_end (by rw [List.length_drop,HNN.out]; omega),h1,h2]; rfl
   have hi2:¬ ((i:Int) < (n:Int)):=by omega
   go_wp2
   go_ret
   exact ⟨took_go rfl (by rw [HQ.out]; exact HB.out),HK.out⟩
theorem rd71_any (X:Nat)(c:Cp)(a:Option Addr)(cap:Nat)(bs:List Nat)(w:World)(hx:CBox w X c)(hr:BRd w a bs)(hne:∀ x,a=some x→0 < bs.length→x.block≠X)(hl:bs.length≤10000) :
  Calls Tryz.prog 48 #[.pointer (some ⟨X,0,none⟩),.int .i64 71,.slice a bs.length cap] w fun e w'=>Took X (readOne 71 bs c) e w'∧Keeps (fun b=>b=X) w w':=by
 have e71:readOne 71 bs c=if bs.length % 7=0 then some (putLL bs c) else none:=by unfold readOne; rw [if_neg (by omega),if_neg (by omega),if_pos rfl]
 rw [e71]
 by_cases h:bs.length % 7=0
 ·rw [if_pos h]; exact rd71_good X c a cap bs w hx hr hne hl h
 ·rw [if_neg h]
  refine (rd71_bad X a bs.length cap w h hl).mono fun e w' ⟨h1,h2⟩=>⟨?_,by rw [h2]; exact Keeps.refl _ _⟩
  rw [h1]; rfl
theorem rdone_any (X:Nat)(c:Cp)(k:Nat)(a:Option Addr)(cap:Nat)(bs:List Nat)(w:World)(hx:CBox w X c)(hr:BRd w a bs)(hne:∀ x,a=some x→0 < bs.length→x.block≠X)(hl:bs.length≤10000) :
  Calls Tryz.prog 48 #[.pointer (some ⟨X,0,none⟩),.int .i64 (k:Int),.slice a bs.length cap] w fun e w'=>Took X (readOne k bs c) e w'∧Keeps (fun b=>b=X) w w':=by
 by_cases h65:k=65
 ·subst h65; exact rd65_any X c a cap bs w hx hr
 ·by_cases h64:k=64
  ·subst h64; exact rd64_any X c a cap bs w hx hr hne hl
  ·by_cases h71:k=71
   ·subst h71; exact rd71_any X c a cap bs w hx hr hne hl
   ·have e:readOne k bs c=some c:=by unfold readOne; rw [if_neg h65,if_neg h64,if_neg h71]
    rw [e]
    exact rdno_any X c k a bs.length cap w hx h65 h64 h71
structure RBox (w:World) (R:Nat):Prop where
  cells:∀ j,j < 9→∃ v,w.cell? ⟨R,j,none⟩=some v
  free:∀ j,w.frozen? ⟨R,j,none⟩=false
theorem RBox.keeps {w w':World}{R X:Nat} (h:RBox w R) (hne:R≠X) (hk:Keeps (fun b=>b=X) w w'):RBox w' R:=by
  obtain ⟨v0,h0⟩:=h.cells 0 (by omega)
  have hs:=World.block_lt_of_cell? w _ h0
  have hb:=hk.block R hs hne
  exact ⟨fun j hj=>by obtain ⟨v,hv⟩:=h.cells j hj; exact ⟨v,by rw [World.cell?_of_block hb]; exact hv⟩,fun j=>by rw [World.frozen?_of_block hb]; exact h.free j⟩
theorem row_cell {w w1:World}{B X e:Nat}{a:Option Addr}{m c:Nat}{cs:List Value} (ho:w.ownsRow B e 1 (.slice a m c) m cs) (hX:X < B) (hk:Keeps (fun b=>b=X) w w1) (i:Nat) (hi:i < m):∃ g,a=some ⟨g,0,none⟩∧g < w1.heap.size∧∀ v,cs[i]?=some v→w1.cell? ⟨g,i,none⟩=some v:=by
  obtain ⟨g,c',e1,hg,hh⟩:=ho.form (by omega)
  simp only [Value.slice.injEq] at e1
  obtain ⟨rfl,_,rfl⟩:=e1
  have hgb:=own_block ho g rfl
  refine ⟨g,rfl,Nat.lt_of_lt_of_le hgb.2 hk.size,fun v hv=>?_⟩
  rw [hk.cell ⟨g,i,none⟩ hgb.2 (by show g≠X; have:=hgb.1; omega),ho.cellAt i (by omega)]
  exact hv
theorem tysL_get {l:List (Nat×List Nat)}{i:Nat}{p:Nat×List Nat} (h:l[i]?=some p):(icells (tysL l))[i]?=some (.int .i64 (p.1:Int)):=by simp [icells,tysL,h]
theorem drop_at {l:List (Nat×List Nat)}{i:Nat} (h:i < l.length):l.drop i=l[i] :: l.drop (i+1):=List.drop_eq_getElem_cons h
theorem pairs_in:∀ (n:Nat)(bs:List Nat)(l0 l:List (Nat×List Nat)),bs.length≤n→(∀ x∈bs,x < 256)→eachC (fun k v (l:List (Nat×List Nat))=>some (l++[(k,v)])) bs l0=some l →
    (∀ p∈l,p∈l0∨(p.2.length≤bs.length∧∀ x∈p.2,x < 256))∧l.length+l.length≤l0.length+l0.length+bs.length
  | n,bs,l0,l,hn,hb,he=>by
    by_cases h0:bs=[]
    · subst h0
      rw [eachC_end] at he
      cases he
      exact ⟨fun p hp=>.inl hp,by simp⟩
    · cases ho:okE bs with
      | false=>rw [eachC_no h0 ho] at he; cases he
      | true =>
        have h1:2≤bs.length:=(of_decide_eq_true ho).1
        cases n with
        | zero=>omega
        | succ n =>
          rw [eachC_go ho] at he
          have ih:=pairs_in n (bs.drop (2+bs.getD 1 0)) (l0++[(bs.getD 0 0,(bs.drop 2).take (bs.getD 1 0))]) l (by rw [List.length_drop]; omega) (fun x hx=>hb x (List.mem_of_mem_drop hx)) he
          refine ⟨fun p hp=>?_,?_⟩
          · rcases ih.1 p hp with h | ⟨h2,h3⟩
            · rcases List.mem_append.1 h with h | h
              · exact .inl h
              · simp only [List.mem_cons,List.not_mem_nil,or_false] at h
                subst h
                refine .inr ⟨?_,fun x hx=>hb x (List.mem_of_mem_drop (List.mem_of_mem_take hx))⟩
                simp only [List.length_take,List.length_drop]
                omega
            · rw [List.length_drop] at h2
              exact .inr ⟨by omega,h3⟩
          · have h5:=ih.2
            simp only [List.length_append,List.length_cons,List.length_nil,List.length_drop] at h5
            omega
theorem pairs_small (bs:List Nat)(hl:bs.length≤5000)(hb:∀ x∈bs,x < 256)(l:List (Nat×List Nat))(h:pairs bs=some l):l.length≤2500∧∀ p∈l,p.2.length≤5000∧∀ x∈p.2,x < 256:=by
  have h1:=pairs_in bs.length bs [] l (Nat.le_refl _) hb h
  refine ⟨by have:=h1.2; simp only [List.length_nil] at this; omega,fun p hp=>?_⟩
  rcases h1.1 p hp with h2 | h2
  · simp at h2
  · exact ⟨by omega,h2.2⟩
set_option maxHeartbeats 6400000 in
theorem rreadc_any (a:Option Addr)(cap:Nat)(bs:List Nat)(w:World)(hl:bs.length≤5000)(hcap:bs.length≤cap)(hr:BRd w a bs) :
    Calls Tryz.prog 28 #[.slice a bs.length cap] w fun e w'=>e=.returned (decV (readC bs))∧Below w.heap.size w w':=by
  obtain ⟨w0,hw0⟩:∃ w0,w0=(w.alloc zeroC).alloc zeroC:=⟨_,rfl⟩
  have hb0:Below w.heap.size w w0:=by rw [hw0]; exact ((Below.refl _ _).alloc (Nat.le_refl _) _).alloc (by simp) _
  have hs0:w0.heap.size=w.heap.size+2:=by rw [hw0]; simp
  have hx0:CBox w0 (w.heap.size+1) cp0:=by
    have h1:=zero_box (w.alloc zeroC)
    simp only [World.size_alloc] at h1
    rw [hw0]
    refine ⟨h1,fun j=>?_⟩
    have h2:=World.frozen?_alloc_mark (w.alloc zeroC) #[.bool false,.int .i64 0,.bool false,.bool false,.int .i64 0,.bool false,.bool false,.bool false,.int .i64 0] 26 0 0 j
    simp only [World.size_alloc] at h2
    unfold zeroC at *
    rw [h2]
    simp
  have hR0:RBox w0 w.heap.size:=by
    have hb:w0.heap[w.heap.size]?=(w.alloc zeroC).heap[w.heap.size]?:=by rw [hw0]; exact heap_alloc_old _ _ (by simp)
    have h1:=(zero_box w).block hb
    refine ⟨fun j hj=>?_,fun j=>?_⟩
    · obtain ⟨k0,k1,k2,k3,k4,k5,k6,k7,k8⟩:=h1
      match j,hj with
      | 0,_=>exact ⟨_,k0⟩
      | 1,_=>exact ⟨_,k1⟩
      | 2,_=>exact ⟨_,k2⟩
      | 3,_=>exact ⟨_,k3⟩
      | 4,_=>exact ⟨_,k4⟩
      | 5,_=>exact ⟨_,k5⟩
      | 6,_=>exact ⟨_,k6⟩
      | 7,_=>exact ⟨_,k7⟩
      | 8,_=>exact ⟨_,k8⟩
    · rw [World.frozen?_of_block hb]
      have h2:=World.frozen?_alloc_mark w #[.bool false,.int .i64 0,.bool false,.bool false,.int .i64 0,.bool false,.bool false,.bool false,.int .i64 0] 26 0 0 j
      unfold zeroC
      rw [h2]
      simp
  have HC:=hide (cut_any (w.heap.size+1) a cap bs w0 hl hcap (hr.below hb0) (fun x hx hp=>by have:=hr.1.lt x hx hp; omega))
  obtain ⟨rc,hrc⟩:∃ rc,rc=readC bs:=⟨_,rfl⟩
  rw [← hrc]
  have HRC:Hid (rc=(pairs bs).bind fun l=>foldE readPar l cp0):=by show rc=_; rw [hrc]; exact eachC_cut readPar bs cp0
  clear hrc
  have HPL:Hid (∀ l,pairs bs=some l→l.length≤2500∧∀ p∈l,p.2.length≤5000∧∀ x∈p.2,x < 256):=fun l hp=>pairs_small bs hl hr.2 l hp
  generalize pairs bs=pr at *
  have HX0:=hide hx0
  have HR0:=hide hR0
  have HB0:=hide hb0
  have HS0:=hide hs0
  clear hx0 hR0 hb0 hr hl hcap hs0
  generalize bs.length=n at *
  go_enter Tryz.func28,Tryz.ntmps28
  go_wp2_with fail
  unfold zeroC at hw0
  rw [← hw0]
  refine HC.out.mono ?_
  rintro e w1 ⟨hcut,hb1⟩
  have HB1:Hid (Below w.heap.size w w1):=HB0.out.trans (hb1.mono HB0.out.size)
  have HX1:Hid (CBox w1 (w.heap.size+1) cp0):=HX0.out.later hb1
  have HR1:Hid (RBox w1 w.heap.size):=HR0.out.keeps (X:=w.heap.size+1) (by omega) (Keeps.of_below hb1 _)
  have HBW:=hide hb1
  clear hw0 hb1 HX0 HR0 HC
  cases hpr:pr with
  | none =>
    rw [hpr] at hcut HRC
    obtain rfl:e=_:=hcut
    have HNO:Hid (rc=none):=HRC.out
    have HRB:=HR1
    obtain ⟨q0,r0⟩:=HRB.out.cells 0 (by omega)
    obtain ⟨q1,r1⟩:=HRB.out.cells 1 (by omega)
    obtain ⟨q2,r2⟩:=HRB.out.cells 2 (by omega)
    obtain ⟨q3,r3⟩:=HRB.out.cells 3 (by omega)
    obtain ⟨q4,r4⟩:=HRB.out.cells 4 (by omega)
    obtain ⟨q5,r5⟩:=HRB.out.cells 5 (by omega)
    obtain ⟨q6,r6⟩:=HRB.out.cells 6 (by omega)
    obtain ⟨q7,r7⟩:=HRB.out.cells 7 (by omega)
    obtain ⟨q8,r8⟩:=HRB.out.cells 8 (by omega)
    have f0:=HRB.out.free 0
    have f1:=HRB.out.free 1
    have f2:=HRB.out.free 2
    have f3:=HRB.out.free 3
    have f4:=HRB.out.free 4
    have f5:=HRB.out.free 5
    have f6:=HRB.out.free 6
    have f7:=HRB.out.free 7
    have f8:=HRB.out.free 8
    have hRs:=World.block_lt_of_cell? w1 _ r0
    simp only at hRs
    go_wp2_with fail
    refine bodyPost_ret (v:=.tuple #[.agg #[.bool false,.int .i64 0,.bool false,.bool false,.int .i64 0,.bool false,.bool false,.bool false,.int .i64 0],.bool false]) (by simp [results,Tryz.results28,go_sem,r0,r1,r2,r3,r4,r5,r6,r7,r8]) rfl ⟨by rw [HNO.out]; rfl,?_⟩
    exact ((((((((HB1.out.setCell (Nat.le_refl _) _).setCell (Nat.le_refl _) _).setCell (Nat.le_refl _) _).setCell (Nat.le_refl _) _).setCell (Nat.le_refl _) _).setCell (Nat.le_refl _) _).setCell (Nat.le_refl _) _).setCell (Nat.le_refl _) _).setCell (Nat.le_refl _) _
  | some l =>
    rw [hpr] at hcut HRC
    obtain ⟨t,v,cs,rfl,hot,hov,hsl⟩:=hcut
    have HRC2:Hid (rc=foldE readPar l cp0):=HRC.out
    have HPL2:=hide (HPL.out l hpr)
    obtain ⟨ta,tc,rfl⟩:=own_shape hot
    obtain ⟨va,vc,rfl⟩:=own_shape hov
    obtain ⟨m,hm⟩:∃ m,l.length=m:=⟨_,rfl⟩
    rw [hm] at hot hov
    rw [hm]
    have HM:=hide hm
    have HOT:=hide hot
    have HOV:=hide hov
    have HSL:=hide hsl
    have hm5:m≤2500:=by have:=HPL2.out.1; omega
    clear hm hot hov hsl HPL HRC hpr
    go_wp2
    go_loopw [8] (fun iv wq=>∃ (i:Nat) (c:Cp),iv=.int .i64 (i:Int)∧i≤m∧Hid (rc=foldE readPar (l.drop i) c)∧Hid (CBox wq (w.heap.size+1) c)∧Hid (Keeps (fun b=>b=w.heap.size+1) w1 wq)) (fun iv _=>m - (intOf iv).toNat)
    case atStart=>exact ⟨0,cp0,rfl,Nat.zero_le _,HRC2,HX1,Keeps.refl _ _⟩
    case round =>
      clear HRC2 HX1
      obtain ⟨i,c,rfl,him,HRI,HXI,HKI⟩:=hrel
      have HBI:Hid (Below w.heap.size w wr):=HB1.out.trans (HKI.out.below w.heap.size HB1.out.size (fun b hb=>by omega))
      have HRB:Hid (RBox wr w.heap.size):=HR1.out.keeps (by omega) HKI.out
      by_cases hlt:i < m
      · have hil:i < l.length:=by rw [HM.out]; exact hlt
        obtain ⟨p,hp⟩:∃ p,p=l[i]:=⟨_,rfl⟩
        have hpg:l[i]?=some p:=by rw [hp]; exact List.getElem?_eq_getElem hil
        have hfold:rc=(readPar p.1 p.2 c).bind (foldE readPar (l.drop (i+1))):=by rw [HRI.out,drop_at hil,← hp]; rfl
        obtain ⟨gt,rfl,hgt,hct⟩:=row_cell HOT.out (by have:=HS0.out; omega) HKI.out i hlt
        obtain ⟨gv,rfl,hgv,hcv⟩:=row_cell HOV.out (by have:=HS0.out; omega) HKI.out i hlt
        obtain ⟨a2,c2,hcs,hc2,hbr,hbx⟩:=HSL.out i p hpg
        obtain ⟨hp5,hp256⟩:=HPL2.out.2 p (by rw [hp]; exact List.getElem_mem hil)
        have y0:wr.cell? ⟨gt,i,none⟩=some (.int .i64 (p.1:Int)):=hct _ (tysL_get hpg)
        have y1:wr.cell? ⟨gv,i,none⟩=some (.slice a2 p.2.length c2):=hcv _ hcs
        have hkw0:Keeps (fun b=>b=w.heap.size+1) w0 wr:=(Keeps.of_below HBW.out _).trans HKI.out (fun _ _ h=>h)
        have hbr2:BRd wr a2 p.2:=hbr.keeps hkw0 hbx
        have HC2:=hide (cut_any (w.heap.size+1) a2 c2 p.2 wr hp5 hc2 hbr2 hbx)
        have HEC:Hid (∀ c,eachC readOne p.2 c=(pairs p.2).bind fun l=>foldE readOne l c):=fun c=>eachC_cut readOne p.2 c
        have HPS:Hid (∀ l2,pairs p.2=some l2→l2.length≤2500∧∀ p2∈l2,p2.2.length≤5000∧∀ x∈p2.2,x < 256):=fun l2 h2=>pairs_small p.2 hp5 hp256 l2 h2
        have HFO:=hide hfold
        have HTG:Hid (∀ W,Keeps (fun b=>b=w.heap.size+1) w1 W→W.cell? ⟨gt,i,none⟩=some (.int .i64 (p.1:Int))∧gt < W.heap.size):=fun W hk=>by
          obtain ⟨g9,e9,h8,h9⟩:=row_cell HOT.out (by have:=HS0.out; omega) hk i hlt
          cases e9
          exact ⟨h9 _ (tysL_get hpg),h8⟩
        obtain ⟨k,vs⟩:=p
        simp only at y0 y1 HC2 HFO HEC HPS HTG
        generalize hprv:pairs vs=prv at *
        clear hp hpg hfold hct hcv hcs hc2 hbr hbx hp5 hp256 hkw0 hbr2 hprv hil
        generalize vs.length=nv at *
        have hi0:(0:Int)≤(i:Int):=Int.natCast_nonneg _
        have hi1:(i:Int) < (m:Int):=by omega
        go_wp2_with fail
        refine HC2.out.mono ?_
        rintro e w2 ⟨hcut2,hb2⟩
        have HK2:Hid (Keeps (fun b=>b=w.heap.size+1) w1 w2):=HKI.out.trans (Keeps.of_below hb2 _) (fun _ _ h=>h)
        have HX2:Hid (CBox w2 (w.heap.size+1) c):=HXI.out.later hb2
        have HB2:Hid (Below w.heap.size w w2):=HB1.out.trans (HK2.out.below w.heap.size HB1.out.size (fun b hb=>by omega))
        clear HRB
        have HRB:Hid (RBox w2 w.heap.size):=HR1.out.keeps (by omega) HK2.out
        obtain ⟨z0,hgt2⟩:=HTG.out w2 HK2.out
        clear y0 y1 HC2 HBI hgt hgv
        have HWR:Hid (wr.heap.size > w.heap.size+1):=by have:=HXI.out.size; exact this
        clear HXI HKI HRI
        by_cases hk2:k=2
        · cases prv with
          | none =>
            obtain rfl:e=_:=hcut2
            have HNO:Hid (rc=none):=by
              show rc=none
              rw [HFO.out]; unfold readPar; rw [if_pos hk2,HEC.out c]; rfl
            subst hk2
            clear HFO HEC HPS HTG hb2
            obtain ⟨q0,r0⟩:=HRB.out.cells 0 (by omega)
            obtain ⟨q1,r1⟩:=HRB.out.cells 1 (by omega)
            obtain ⟨q2,r2⟩:=HRB.out.cells 2 (by omega)
            obtain ⟨q3,r3⟩:=HRB.out.cells 3 (by omega)
            obtain ⟨q4,r4⟩:=HRB.out.cells 4 (by omega)
            obtain ⟨q5,r5⟩:=HRB.out.cells 5 (by omega)
            obtain ⟨q6,r6⟩:=HRB.out.cells 6 (by omega)
            obtain ⟨q7,r7⟩:=HRB.out.cells 7 (by omega)
            obtain ⟨q8,r8⟩:=HRB.out.cells 8 (by omega)
            have f0:=HRB.out.free 0
            have f1:=HRB.out.free 1
            have f2:=HRB.out.free 2
            have f3:=HRB.out.free 3
            have f4:=HRB.out.free 4
            have f5:=HRB.out.free 5
            have f6:=HRB.out.free 6
            have f7:=HRB.out.free 7
            have f8:=HRB.out.free 8
            have hRs:=World.block_lt_of_cell? w2 _ r0
            simp only at hRs
            go_wp2_with fail
            refine bodyPost_ret (v:=.tuple #[.agg #[.bool false,.int .i64 0,.bool false,.bool false,.int .i64 0,.bool false,.bool false,.bool false,.int .i64 0],.bool false]) (by simp [results,Tryz.results28,go_sem,r0,r1,r2,r3,r4,r5,r6,r7,r8]) rfl ⟨by rw [HNO.out]; rfl,?_⟩
            exact ((((((((HB2.out.setCell (Nat.le_refl _) _).setCell (Nat.le_refl _) _).setCell (Nat.le_refl _) _).setCell (Nat.le_refl _) _).setCell (Nat.le_refl _) _).setCell (Nat.le_refl _) _).setCell (Nat.le_refl _) _).setCell (Nat.le_refl _) _).setCell (Nat.le_refl _) _
          | some l2 =>
            obtain ⟨s,x,cs2,rfl,hos,hox,hsl2⟩:=hcut2
            have HPS2:=hide (HPS.out l2 rfl)
            have HEC2:Hid (∀ c,eachC readOne vs c=foldE readOne l2 c):=HEC.out
            have HFO2:Hid (rc=(eachC readOne vs c).bind (foldE readPar (l.drop (i+1)))):=by
              show rc=_
              rw [HFO.out]; unfold readPar; rw [if_pos hk2]
            subst hk2
            obtain ⟨sa,sc,rfl⟩:=own_shape hos
            obtain ⟨xa,xc,rfl⟩:=own_shape hox
            obtain ⟨m2,hm2⟩:∃ m2,l2.length=m2:=⟨_,rfl⟩
            rw [hm2] at hos hox
            rw [hm2]
            have HM2:=hide hm2
            have HOS:=hide hos
            have HOX:=hide hox
            have HSL2:=hide hsl2
            have hm25:m2≤2500:=by have:=HPS2.out.1; omega
            have HWB:=hide hb2
            clear hm2 hos hox hsl2 HFO HEC HPS hb2
            obtain ⟨wa,hwa⟩:∃ wa:World,wa=wr:=⟨wr,rfl⟩
            subst hwa
            go_wp2
            go_loopw [12] (fun iv wq=>∃ (q:Nat) (c':Cp),iv=.int .i64 (q:Int)∧q≤m2∧Hid (eachC readOne vs c=foldE readOne (l2.drop q) c')∧Hid (CBox wq (w.heap.size+1) c')∧Hid (Keeps (fun b=>b=w.heap.size+1) w2 wq)) (fun iv _=>m2 - (intOf iv).toNat)
            case atStart=>exact ⟨0,c,rfl,Nat.zero_le _,HEC2.out c,HX2,Keeps.refl _ _⟩
            case round =>
              clear HX2 z0 hgt2 HRB HTG
              obtain ⟨q,c3,rfl,hqm,HEQ,HXQ,HKQ⟩:=hrel
              have HKW:Hid (Keeps (fun b=>b=w.heap.size+1) w1 wr):=HK2.out.trans HKQ.out (fun _ _ h=>h)
              by_cases hql:q < m2
              · have hqll:q < l2.length:=by rw [HM2.out]; exact hql
                obtain ⟨p2,hp2⟩:∃ p2,p2=l2[q]:=⟨_,rfl⟩
                have hpg2:l2[q]?=some p2:=by rw [hp2]; exact List.getElem?_eq_getElem hqll
                have hfold2:eachC readOne vs c=(readOne p2.1 p2.2 c3).bind (foldE readOne (l2.drop (q+1))):=by rw [HEQ.out,drop_at hqll,← hp2]; rfl
                obtain ⟨gs,rfl,hgs,hcs3⟩:=row_cell HOS.out HWR.out HKQ.out q hql
                obtain ⟨gx,rfl,hgx,hcx⟩:=row_cell HOX.out HWR.out HKQ.out q hql
                obtain ⟨a3,c4,hcs4,hc4,hbr3,hbx3⟩:=HSL2.out q p2 hpg2
                obtain ⟨hp25,hp2256⟩:=HPS2.out.2 p2 (by rw [hp2]; exact List.getElem_mem hqll)
                have y0:wr.cell? ⟨gs,q,none⟩=some (.int .i64 (p2.1:Int)):=hcs3 _ (tysL_get hpg2)
                have y1:wr.cell? ⟨gx,q,none⟩=some (.slice a3 p2.2.length c4):=hcx _ hcs4
                have hkwa:Keeps (fun b=>b=w.heap.size+1) wa wr:=(Keeps.of_below HWB.out _).trans HKQ.out (fun _ _ h=>h)
                have hbr4:BRd wr a3 p2.2:=hbr3.keeps hkwa hbx3
                have hbd:Below wr.heap.size wr wr.drew:=(Below.refl _ _).drew
                have HRD:=hide (rdone_any (w.heap.size+1) c3 p2.1 a3 c4 p2.2 wr.drew (HXQ.out.later hbd) (hbr4.below hbd) hbx3 (by omega))
                have HFQ:=hide hfold2
                have HSC:Hid (∀ W,Keeps (fun b=>b=w.heap.size+1) wr.drew W→W.cell? ⟨gs,q,none⟩=some (.int .i64 (p2.1:Int))∧W.cell? ⟨gx,q,none⟩=some (.slice a3 p2.2.length c4)):=fun W hk=>by
                  have hk9:Keeps (fun b=>b=w.heap.size+1) w2 W:=HKQ.out.drew.trans hk (fun _ _ h=>h)
                  obtain ⟨g8,e8,_,h8⟩:=row_cell HOS.out HWR.out hk9 q hql
                  obtain ⟨g9,e9,_,h9⟩:=row_cell HOX.out HWR.out hk9 q hql
                  cases e8
                  cases e9
                  exact ⟨h8 _ (tysL_get hpg2),h9 _ hcs4⟩
                have HKD:Hid (Keeps (fun b=>b=w.heap.size+1) w2 wr.drew):=HKQ.out.drew
                have HSD:Hid (wr.drew.cell? ⟨gs,q,none⟩=some (.int .i64 (p2.1:Int))∧wr.drew.cell? ⟨gx,q,none⟩=some (.slice a3 p2.2.length c4)):=⟨y0,y1⟩
                obtain ⟨k2,vs2⟩:=p2
                simp only at y0 y1 HRD HFQ HSC HSD
                clear hp2 hpg2 hfold2 hcs3 hcx hcs4 hc4 hbr3 hbx3 hp25 hp2256 hkwa hbr4 hbd hqll
                have hq0:(0:Int)≤(q:Int):=Int.natCast_nonneg _
                have hq1:(q:Int) < (m2:Int):=by omega
                cases hro:readOne k2 vs2 c3 with
                | none =>
                  rw [hro] at HRD HFQ
                  have HNO:Hid (rc=none):=by show rc=none; rw [HFO2.out,HFQ.out]; rfl
                  clear hro
                  generalize vs2.length=n2 at *
                  go_wp2_with fail
                  go_region_held3 (fun w'=>w'.cell? ⟨gs,q,none⟩=some (.int .i64 (k2:Int))∧w'.cell? ⟨gx,q,none⟩=some (.slice a3 n2 c4))
                    (with_reducible first | exact HSD.out | exact HS2.out | fail)
                    (first
                      | (go_at_call 48
                         with_reducible refine HRD.out.mono ?_
                         rintro e w3 ⟨ht,hk3⟩
                         obtain rfl:e=_:=ht
                         have HS2:=hide (HSC.out w3 hk3)
                         have HK3:=hide hk3
                         clear hk3))
                  all_goals have HK9:Hid (Keeps (fun b=>b=w.heap.size+1) w1 w3):=HK2.out.trans (HKD.out.trans HK3.out (fun _ _ h=>h)) (fun _ _ h=>h)
                  all_goals have HB9:Hid (Below w.heap.size w w3):=HB1.out.trans (HK9.out.below w.heap.size HB1.out.size (fun b hb=>by omega))
                  all_goals have HRB:Hid (RBox w3 w.heap.size):=HR1.out.keeps (by omega) HK9.out
                  all_goals clear y0 y1 HSD HS2 HRD HFQ HSC
                  all_goals obtain ⟨q0,r0⟩:=HRB.out.cells 0 (by omega)
                  all_goals obtain ⟨q1,r1⟩:=HRB.out.cells 1 (by omega)
                  all_goals obtain ⟨q2,r2⟩:=HRB.out.cells 2 (by omega)
                  all_goals obtain ⟨q3,r3⟩:=HRB.out.cells 3 (by omega)
                  all_goals obtain ⟨q4,r4⟩:=HRB.out.cells 4 (by omega)
                  all_goals obtain ⟨q5,r5⟩:=HRB.out.cells 5 (by omega)
                  all_goals obtain ⟨q6,r6⟩:=HRB.out.cells 6 (by omega)
                  all_goals obtain ⟨q7,r7⟩:=HRB.out.cells 7 (by omega)
                  all_goals obtain ⟨q8,r8⟩:=HRB.out.cells 8 (by omega)
                  all_goals have f0:=HRB.out.free 0
                  all_goals have f1:=HRB.out.free 1
                  all_goals have f2:=HRB.out.free 2
                  all_goals have f3:=HRB.out.free 3
                  all_goals have f4:=HRB.out.free 4
                  all_goals have f5:=HRB.out.free 5
                  all_goals have f6:=HRB.out.free 6
                  all_goals have f7:=HRB.out.free 7
                  all_goals have f8:=HRB.out.free 8
                  all_goals have hRs:=World.block_lt_of_cell? w3 _ r0
                  all_goals simp only at hRs
                  all_goals go_wp2_with fail
                  all_goals refine bodyPost_ret (v:=.tuple #[.agg #[.bool false,.int .i64 0,.bool false,.bool false,.int .i64 0,.bool false,.bool false,.bool false,.int .i64 0],.bool false]) (by simp [results,Tryz.results28,go_sem,r0,r1,r2,r3,r4,r5,r6,r7,r8]) rfl ⟨by rw [HNO.out]; rfl,?_⟩
                  all_goals exact ((((((((HB9.out.setCell (Nat.le_refl _) _).setCell (Nat.le_refl _) _).setCell (Nat.le_refl _) _).setCell (Nat.le_refl _) _).setCell (Nat.le_refl _) _).setCell (Nat.le_refl _) _).setCell (Nat.le_refl _) _).setCell (Nat.le_refl _) _).setCell (Nat.le_refl _) _
                | some c5 =>
                  rw [hro] at HRD HFQ
                  have HFQ2:Hid (eachC readOne vs c=foldE readOne (l2.drop (q+1)) c5):=HFQ.out
                  clear hro
                  generalize vs2.length=n2 at *
                  go_wp2_with fail
                  go_region_held3 (fun w'=>w'.cell? ⟨gs,q,none⟩=some (.int .i64 (k2:Int))∧w'.cell? ⟨gx,q,none⟩=some (.slice a3 n2 c4))
                    (with_reducible first | exact HSD.out | exact HS2.out | fail)
                    (first
                      | (go_at_call 48
                         with_reducible refine HRD.out.mono ?_
                         rintro e w3 ⟨ht,hk3⟩
                         obtain ⟨rfl,hx3⟩:=ht
                         have HX3:=hide hx3
                         have HS2:=hide (HSC.out w3 hk3)
                         have HK3:=hide hk3
                         clear hk3 hx3))
                  all_goals go_wp2
                  all_goals exact ⟨⟨q+1,c5,by go_num,by omega,HFQ2,HX3,HKD.out.trans HK3.out (fun _ _ h=>h)⟩,by simp [intOf]; omega⟩
              · have HEND:Hid (rc=foldE readPar (l.drop (i+1)) c3):=by
                  show rc=_
                  rw [HFO2.out,HEQ.out,List.drop_eq_nil_of_le (by rw [HM2.out]; omega)]; rfl
                have hq9:¬ ((q:Int) < (m2:Int)):=by omega
                go_wp2
                exact ⟨⟨i+1,c3,by go_num,by omega,HEND,HXQ,HKW⟩,by simp [intOf]; omega⟩
        · have HNO:Hid (rc=none):=by
            show rc=none
            rw [HFO.out]; unfold readPar; rw [if_neg hk2]; rfl
          have hk2i:((k:Int) != 2)=true:=by simp; omega
          have hsh:∃ (u1 u2:Value) (z:Bool),e=.returned (.tuple #[u1,u2,.bool z]):=by
            cases prv with
            | none=>exact ⟨_,_,_,hcut2⟩
            | some l2=>obtain ⟨s,x,cs2,h9,_⟩:=hcut2; exact ⟨_,_,_,h9⟩
          obtain ⟨u1,u2,zz,rfl⟩:=hsh
          clear HFO HEC HPS HTG hb2 hcut2 hk2
          obtain ⟨q0,r0⟩:=HRB.out.cells 0 (by omega)
          obtain ⟨q1,r1⟩:=HRB.out.cells 1 (by omega)
          obtain ⟨q2,r2⟩:=HRB.out.cells 2 (by omega)
          obtain ⟨q3,r3⟩:=HRB.out.cells 3 (by omega)
          obtain ⟨q4,r4⟩:=HRB.out.cells 4 (by omega)
          obtain ⟨q5,r5⟩:=HRB.out.cells 5 (by omega)
          obtain ⟨q6,r6⟩:=HRB.out.cells 6 (by omega)
          obtain ⟨q7,r7⟩:=HRB.out.cells 7 (by omega)
          obtain ⟨q8,r8⟩:=HRB.out.cells 8 (by omega)
          have f0:=HRB.out.free 0
          have f1:=HRB.out.free 1
          have f2:=HRB.out.free 2
          have f3:=HRB.out.free 3
          have f4:=HRB.out.free 4
          have f5:=HRB.out.free 5
          have f6:=HRB.out.free 6
          have f7:=HRB.out.free 7
          have f8:=HRB.out.free 8
          have hRs:=World.block_lt_of_cell? w2 _ r0
          simp only at hRs
          go_wp2_with fail
          refine bodyPost_ret (v:=.tuple #[.agg #[.bool false,.int .i64 0,.bool false,.bool false,.int .i64 0,.bool false,.bool false,.bool false,.int .i64 0],.bool false]) (by simp [results,Tryz.results28,go_sem,r0,r1,r2,r3,r4,r5,r6,r7,r8]) rfl ⟨by rw [HNO.out]; rfl,?_⟩
          exact ((((((((HB2.out.setCell (Nat.le_refl _) _).setCell (Nat.le_refl _) _).setCell (Nat.le_refl _) _).setCell (Nat.le_refl _) _).setCell (Nat.le_refl _) _).setCell (Nat.le_refl _) _).setCell (Nat.le_refl _) _).setCell (Nat.le_refl _) _).setCell (Nat.le_refl _) _
      · have HND:Hid (rc=some c):=by
          show rc=some c
          rw [HRI.out,List.drop_eq_nil_of_le (by rw [HM.out]; omega)]; rfl
        have hi9:¬ ((i:Int) < (m:Int)):=by omega
        obtain ⟨x0,x1,x2,x3,x4,x5,x6,x7,x8⟩:=HXI.out.cells
        have hXs:=HXI.out.size
        obtain ⟨four,as4,gr,rs,tm,fam,fwd,ll,lt⟩:=c
        simp only at x0 x1 x2 x3 x4 x5 x6 x7 x8
        obtain ⟨q0,r0⟩:=HRB.out.cells 0 (by omega)
        obtain ⟨q1,r1⟩:=HRB.out.cells 1 (by omega)
        obtain ⟨q2,r2⟩:=HRB.out.cells 2 (by omega)
        obtain ⟨q3,r3⟩:=HRB.out.cells 3 (by omega)
        obtain ⟨q4,r4⟩:=HRB.out.cells 4 (by omega)
        obtain ⟨q5,r5⟩:=HRB.out.cells 5 (by omega)
        obtain ⟨q6,r6⟩:=HRB.out.cells 6 (by omega)
        obtain ⟨q7,r7⟩:=HRB.out.cells 7 (by omega)
        obtain ⟨q8,r8⟩:=HRB.out.cells 8 (by omega)
        have f0:=HRB.out.free 0
        have f1:=HRB.out.free 1
        have f2:=HRB.out.free 2
        have f3:=HRB.out.free 3
        have f4:=HRB.out.free 4
        have f5:=HRB.out.free 5
        have f6:=HRB.out.free 6
        have f7:=HRB.out.free 7
        have f8:=HRB.out.free 8
        have hRs:=World.block_lt_of_cell? wr _ r0
        simp only at hRs
        go_wp2_with fail
        refine bodyPost_ret (v:=.tuple #[.agg #[.bool four,.int .i64 as4,.bool gr,.bool rs,.int .i64 tm,.bool fam,.bool fwd,.bool ll,.int .i64 lt],.bool true]) (by simp [results,Tryz.results28,go_sem,r0,r1,r2,r3,r4,r5,r6,r7,r8]) rfl ⟨by rw [HND.out]; rfl,?_⟩
        exact ((((((((HBI.out.setCell (Nat.le_refl _) _).setCell (Nat.le_refl _) _).setCell (Nat.le_refl _) _).setCell (Nat.le_refl _) _).setCell (Nat.le_refl _) _).setCell (Nat.le_refl _) _).setCell (Nat.le_refl _) _).setCell (Nat.le_refl _) _).setCell (Nat.le_refl _) _
end Go.Proofs.YtogbjeaceboemaaGreatDoor
