import Derived.Test.YtogbjeaceboemaaGreatDoorPA11
import Derived.BigRegion
namespace Go.Proofs.YtogbjeaceboemaaGreatDoor
open Go.RowKit
set_option maxRecDepth 100000
set_option maxHeartbeats 1600000 in
theorem rd64_bad (X:Nat)(a:Option Addr)(n cap:Nat)(w:World)(h:n % 4≠2)(hl:n≤10000) :
  Calls Tryz.prog 48 #[.pointer (some ⟨X,0,none⟩),.int .i64 64,.slice a n cap] w fun e w'=>e=.returned (.bool false)∧w'=w:=by
 have hm:((n:Int) % 4 != 2)=true:=by
  simp
  omega
 clear h
 go_enter Tryz.func48,Tryz.ntmps48
 go_wp2
 go_ret
 exact ⟨rfl,rfl⟩
def w5s (w:World)(X:Nat)(rs:Bool)(tm:Int):World:=((((w.setCell ⟨X,2,none⟩ (.bool true)).setCell ⟨X,3,none⟩ (.bool rs)).setCell ⟨X,4,none⟩ (.int .i64 tm)).setCell ⟨X,5,none⟩ (.bool false)).setCell ⟨X,6,none⟩ (.bool false)
theorem w5s_keeps (w:World)(X:Nat)(rs:Bool)(tm:Int):Keeps (fun b=>b=X) w (w5s w X rs tm) :=
 ((((((Keeps.refl (fun b=>b=X) w).setCell X 2 _ (.inl rfl)).setCell X 3 _ (.inl rfl)).setCell X 4 _ (.inl rfl)).setCell X 5 _ (.inl rfl)).setCell X 6 _ (.inl rfl))
theorem w5s_box {w:World}{X:Nat}{c:Cp} (h:CBox w X c) (rs:Bool) (tm:Int):CBox (w5s w X rs tm) X { c with gr:=true,rs:=rs,tm:=tm,fam:=false,fwd:=false }:=by
 obtain ⟨x0,x1,x2,x3,x4,x5,x6,x7,x8⟩:=h.cells
 have k:∀ j v,w.cell? ⟨X,j,none⟩=some v→(w5s w X rs tm).cell? ⟨X,j,none⟩=some (if 6=j then .bool false else if 5=j then .bool false else if 4=j then .int .i64 tm else if 3=j then .bool rs else if 2=j then .bool true else v):=fun j v h=>box_set _ X 6 _ j _ (box_set _ X 5 _ j _ (box_set _ X 4 _ j _ (box_set _ X 3 _ j _ (box_set _ X 2 _ j _ h))))
 exact ⟨⟨k 0 _ x0,k 1 _ x1,k 2 _ x2,k 3 _ x3,k 4 _ x4,k 5 _ x5,k 6 _ x6,k 7 _ x7,k 8 _ x8⟩,fun j=>by unfold w5s; rw [World.frozen?_setCell,World.frozen?_setCell,World.frozen?_setCell,World.frozen?_setCell,World.frozen?_setCell]; exact h.free j⟩
set_option maxHeartbeats 3200000 in
theorem rd64_good (X:Nat)(c:Cp)(a:Option Addr)(cap:Nat)(bs:List Nat)(w:World)(hx:CBox w X c)(hr:BRd w a bs)(hne:∀ x,a=some x→0 < bs.length→x.block≠X)(hl:bs.length≤10000)(h:bs.length % 4=2) :
  Calls Tryz.prog 48 #[.pointer (some ⟨X,0,none⟩),.int .i64 64,.slice a bs.length cap] w fun e w'=>Took X (some (putGR bs c)) e w'∧Keeps (fun b=>b=X) w w':=by
 obtain ⟨b,o,rfl,hc⟩:=hr.1.2 (by omega)
 have hbX:b≠X:=hne ⟨b,o,none⟩ rfl (by omega)
 have HR:=hide hr
 have HX:=hide hx
 have hXs:=hx.size
 have y0:w.cell? ⟨b,o,none⟩=some (.int .u8 (bs.getD 0 0:Int)):=hc 0 (by omega)
 have y1:w.cell? ⟨b,o+1,none⟩=some (.int .u8 (bs.getD 1 0:Int)):=hc 1 (by omega)
 have hbs:=World.block_lt_of_cell? w _ y0
 simp only at hbs
 have g0:=getD_lt256 hr.2 0
 have g1:=getD_lt256 hr.2 1
 obtain ⟨x0,x1,x2,x3,x4,x5,x6,x7,x8⟩:=hx.cells
 have f2:=hx.free 2
 have f3:=hx.free 3
 have f4:=hx.free 4
 have f5:=hx.free 5
 have f6:=hx.free 6
 have HN:Hid (∃ n,bs.length=n):=⟨_,rfl⟩
 obtain ⟨n,hn⟩:=HN.out
 have hmi:((n:Int) % 4 != 2)=false:=by rw [← hn]; simp; omega
 have n0:0 < n:=by omega
 have n1:1 < n:=by omega
 have l0:(0:Int) < (n:Int):=by omega
 have l1:(1:Int) < (n:Int):=by omega
 rw [hn]
 rw [hn] at hl
 have HNN:=hide hn
 have HN4:Hid (n % 4=2):=by show n % 4=2; rw [← hn]; exact h
 have hxb:X≠b:=Ne.symm hbX
 generalize hz0:bs.getD 0 0=z0 at *
 generalize hz1:bs.getD 1 0=z1 at *
 clear hc hr hx hne HN hn
 obtain ⟨pc,hpc⟩:∃ pc,pc=putGR bs c:=⟨_,rfl⟩
 rw [← hpc]
 obtain ⟨four,as4,gr,rs,tm,fam,fwd,ll,lt⟩:=c
 simp only at *
 have HPC:=hide hpc
 clear hpc
 go_enter Tryz.func48,Tryz.ntmps48
 go_wp2_with fail
 go_region
 have HB5:=hide (w5s_box HX.out (decide ((128:Int)≤(z0:Int))) (256 * ((z0:Int) % 16)+(z1:Int)))
 have HK5:=hide (w5s_keeps w X (decide ((128:Int)≤(z0:Int))) (256 * ((z0:Int) % 16)+(z1:Int)))
 unfold w5s at HB5 HK5
 generalize (((((w.setCell ⟨X,2,none⟩ (.bool true)).setCell ⟨X,3,none⟩ (.bool (decide ((128:Int)≤(z0:Int))))).setCell ⟨X,4,none⟩ (.int .i64 (256 * ((z0:Int) % 16)+(z1:Int)))).setCell ⟨X,5,none⟩ (.bool false)).setCell ⟨X,6,none⟩ (.bool false))=W at *
 have HP:Hid (pc=⟨four,as4,true,decide ((128:Int)≤(z0:Int)),256 * ((z0:Int) % 16)+(z1:Int),(fstU 4 (bs.drop 2)).isSome,fwdOf (fstU 4 (bs.drop 2)),ll,lt⟩):=by
  show _=_
  rw [HPC.out]
  unfold putGR
  rw [hz0,hz1]
  have e1:decide (128≤z0)=decide ((128:Int)≤(z0:Int)):=by rw [Bool.eq_iff_iff]; simp; omega
  have e2:((z0 % 16 * 256+z1:Nat):Int)=256 * ((z0:Int) % 16)+(z1:Int):=by omega
  rw [e1,e2]
 clear HPC
 obtain ⟨R2,hR2⟩:∃ R2,R2=decide ((128:Int)≤(z0:Int)):=⟨_,rfl⟩
 obtain ⟨T2,hT2⟩:∃ T2,T2=256 * ((z0:Int) % 16)+(z1:Int):=⟨_,rfl⟩
 rw [← hR2,← hT2] at HP HB5
 obtain ⟨fu,hfu⟩:∃ fu,fu=fstU 4 (bs.drop 2):=⟨_,rfl⟩
 rw [← hfu] at HP
 have HFU:=hide hfu
 clear hR2 hT2 hz0 hz1 hfu x0 x1 x2 x3 x4 x5 x6 x7 x8 f2 f3 f4 f5 f6 y0 y1 HX h
 go_wp2
 go_loopw [7] (fun iv wq=>∃ (i:Nat) (fam fwd:Bool),iv=.int .i64 (i:Int)∧i≤n∧Hid (i % 4=2)∧Hid (CBox wq X ⟨four,as4,true,R2,T2,fam,fwd,ll,lt⟩)∧Hid (Keeps (fun b=>b=X) w wq)∧Hid (fam=true∧fu.isSome=true∧fwdOf fu=fwd∨fam=false∧fwd=false∧fu=fstU 4 (bs.drop i))) (fun iv _=>n - (intOf iv).toNat)
 case atStart=>exact ⟨2,false,false,rfl,by omega,rfl,HB5.out.block rfl,HK5.out.drew,.inr ⟨rfl,rfl,HFU.out⟩⟩
 case round =>
  obtain ⟨i,fm,fw,rfl,hin,HI,HB,HK,HF⟩:=hrel
  clear HB5 HK5
  by_cases hlt:i < n
  ·have hi4:i+4≤n:=by have:=HI.out; have:=HN4.out; omega
   have hrw:BRd wr (some ⟨b,o,none⟩) bs:=HR.out.keeps HK.out (fun x e _=>by cases e; exact hbX)
   obtain ⟨b9,o9,e9,hc⟩:=hrw.1.2 (by rw [HNN.out]; omega)
   cases e9
   have c0:wr.cell? ⟨b,o+i,none⟩=some (.int .u8 (bs.getD i 0:Int)):=hc i (by rw [HNN.out]; omega)
   have c1:wr.cell? ⟨b,o+(i+1),none⟩=some (.int .u8 (bs.getD (i+1) 0:Int)):=hc (i+1) (by rw [HNN.out]; omega)
   have c2:wr.cell? ⟨b,o+(i+2),none⟩=some (.int .u8 (bs.getD (i+2) 0:Int)):=hc (i+2) (by rw [HNN.out]; omega)
   have c3:wr.cell? ⟨b,o+(i+3),none⟩=some (.int .u8 (bs.getD (i+3) 0:Int)):=hc (i+3) (by rw [HNN.out]; omega)
   have g3:=getD_lt256 HR.out.2 (i+3)
   have hbw:=World.block_lt_of_cell? wr _ c0
   simp only at hbw
   obtain ⟨x0,x1,x2,x3,x4,x5,x6,x7,x8⟩:=HB.out.cells
   have f5:=HB.out.free 5
   have f6:=HB.out.free 6
   have hXw:=HB.out.size
   simp only at x0 x1 x2 x3 x4 x5 x6 x7 x8
   have hdl:(bs.drop i).length=n - i:=by rw [List.length_drop,HNN.out]
   have ht3:(bs.drop i).take 3=[bs.getD i 0,bs.getD (i+1) 0,bs.getD (i+2) 0]:=by
    rw [take3 (by omega)]
    simp only [List.getD_eq_getElem?_getD,List.getElem?_drop,Nat.add_zero]
   have HMISS:Hid (¬ (bs.getD i 0=0∧bs.getD (i+1) 0=1∧bs.getD (i+2) 0=1)→fm=true∧fu.isSome=true∧fwdOf fu=fw∨fm=false∧fw=false∧fu=fstU 4 (bs.drop (i+4))):=fun hno=>by
    rcases HF.out with hh | ⟨h1,h2,h3⟩
    ·exact .inl hh
    ·refine .inr ⟨h1,h2,?_⟩
     rw [h3,fstU_miss (by omega) (by omega) (by rw [ht3]; intro h9; simp only [List.cons.injEq,and_true] at h9; exact hno h9),List.drop_drop]
   have HHIT:Hid ((bs.getD i 0=0∧bs.getD (i+1) 0=1∧bs.getD (i+2) 0=1)→fm=false→fu.isSome=true∧fwdOf fu=decide (128≤bs.getD (i+3) 0)):=fun hy hf=>by
    rcases HF.out with ⟨h1,_⟩ | ⟨h1,h2,h3⟩
    ·rw [h1] at hf; cases hf
    ·rw [h3,fstU_hit (by omega) (by rw [ht3,hy.1,hy.2.1,hy.2.2])]
     refine ⟨rfl,?_⟩
     show decide (128≤((bs.drop i).take 4).getD 3 0)=_
     rw [List.getD_eq_getElem?_getD,List.getElem?_take_of_lt (by omega),List.getElem?_drop,List.getD_eq_getElem?_getD]
   generalize bs.getD i 0=t0 at *
   generalize bs.getD (i+1) 0=t1 at *
   generalize bs.getD (i+2) 0=t2 at *
   generalize bs.getD (i+3) 0=t3 at *
   have l0:(0:Int)≤(i:Int):=Int.natCast_nonneg _
   have l1:(i:Int) < (n:Int):=by omega
   have l2:(i:Int)+1 < (n:Int):=by omega
   have l3:(i:Int)+2 < (n:Int):=by omega
   have l4:(i:Int)+3 < (n:Int):=by omega
   clear hc hrw ht3 hdl
   by_cases e0:t0=0
   ·by_cases e1:t1=1
    ·by_cases e2:t2=1
     ·cases fm with
      | true =>
       have HF2:Hid (true=true∧fu.isSome=true∧fwdOf fu=fw∨true=false∧fw=false∧fu=fstU 4 (bs.drop (i+4))):=by
        rcases HF.out with hh | ⟨h1,_⟩
        ·exact .inl hh
        ·cases h1
       subst e0 e1 e2
       clear HMISS HHIT HF
       go_wp2
       exact ⟨⟨i+4,true,fw,by go_num,by omega,by have:=HI.out; show (i+4) % 4=2; omega,HB,HK,HF2⟩,by simp [intOf]; omega⟩
      | false =>
       obtain ⟨k1,k2⟩:=HHIT.out ⟨e0,e1,e2⟩ rfl
       have HF2:Hid (true=true∧fu.isSome=true∧fwdOf fu=decide (128≤t3)∨true=false∧decide (128≤t3)=false∧fu=fstU 4 (bs.drop (i+4))):=.inl ⟨rfl,k1,k2⟩
       have HB2:=hide (two_box HB.out true (decide (128≤t3)))
       have HK2:=hide ((HK.out.setCell X 5 (.bool true) (.inl rfl)).setCell X 6 (.bool (decide (128≤t3))) (.inl rfl))
       have e9:decide ((128:Int)≤(t3:Int))=decide (128≤t3):=by rw [Bool.eq_iff_iff]; simp; omega
       subst e0 e1 e2
       clear HMISS HHIT HF k1 k2
       go_wp2
       exact ⟨⟨i+4,true,decide (128≤t3),by go_num,by omega,by have:=HI.out; show (i+4) % 4=2; omega,HB2,HK2,HF2⟩,by simp [intOf]; omega⟩
     ·have HF2:=hide (HMISS.out (fun h=>e2 h.2.2))
      have i2:((t2:Int) == 1)=false:=by simp; omega
      subst e0 e1
      clear HMISS HHIT HF e2
      go_wp2
      exact ⟨⟨i+4,fm,fw,by go_num,by omega,by have:=HI.out; show (i+4) % 4=2; omega,HB,HK,HF2⟩,by simp [intOf]; omega⟩
    ·have HF2:=hide (HMISS.out (fun h=>e1 h.2.1))
     have i1:((t1:Int) == 1)=false:=by simp; omega
     subst e0
     clear HMISS HHIT HF e1
     go_wp2
     exact ⟨⟨i+4,fm,fw,by go_num,by omega,by have:=HI.out; show (i+4) % 4=2; omega,HB,HK,HF2⟩,by simp [intOf]; omega⟩
   ·have HF2:=hide (HMISS.out (fun h=>e0 h.1))
    have i0:((t0:Int) == 0)=false:=by simp; omega
    clear HMISS HHIT HF e0
    go_wp2
    exact ⟨⟨i+4,fm,fw,by go_num,by omega,by have:=HI.out; show (i+4) % 4=2; omega,HB,HK,HF2⟩,by simp [intOf]; omega⟩
  ·have HQ:Hid (pc=⟨four,as4,true,R2,T2,fm,fw,ll,lt⟩):=by
    show pc=_
    rw [HP.out]
    rcases HF.out with ⟨h1,h2,h3⟩ | ⟨h1,h2,h3⟩
    ·rw [h2,h3,h1]
    ·rw [h3,fstU_end (by rw [List.length_drop,HNN.out]; omega),h1,h2]; rfl
   have hi2:¬ ((i:Int) < (n:Int)):=by omega
   go_wp2
   go_ret
   exact ⟨took_go rfl (by rw [HQ.out]; exact HB.out),HK.out⟩
theorem rd64_any (X:Nat)(c:Cp)(a:Option Addr)(cap:Nat)(bs:List Nat)(w:World)(hx:CBox w X c)(hr:BRd w a bs)(hne:∀ x,a=some x→0 < bs.length→x.block≠X)(hl:bs.length≤10000) :
  Calls Tryz.prog 48 #[.pointer (some ⟨X,0,none⟩),.int .i64 64,.slice a bs.length cap] w fun e w'=>Took X (readOne 64 bs c) e w'∧Keeps (fun b=>b=X) w w':=by
 have e64:readOne 64 bs c=if bs.length % 4=2 then some (putGR bs c) else none:=by unfold readOne; rw [if_neg (by omega),if_pos rfl]
 rw [e64]
 by_cases h:bs.length % 4=2
 ·rw [if_pos h]; exact rd64_good X c a cap bs w hx hr hne hl h
 ·rw [if_neg h]
  refine (rd64_bad X a bs.length cap w h hl).mono fun e w' ⟨h1,h2⟩=>⟨?_,by rw [h2]; exact Keeps.refl _ _⟩
  rw [h1]; rfl
end Go.Proofs.YtogbjeaceboemaaGreatDoor
