import Derived.BigRegion
import Derived.Test.YtdojlejehjbliaaGreatDoorPA9
namespace Go.Proofs.YtdojlejehjbliaaGreatDoor
set_option maxHeartbeats 4000000
open _root_.Go.Value renaming slice → I,int → Q,bool → D,pointer → R
open _root_.Option renaming none → J,some → Z
open _root_.Go.Proofs.Tryz renaming prog → V
open _root_.List renaming getD_eq_getElem?_getD → Y,length_drop → T
open _root_.Go.IntKind renaming i64 → U
open _root_.Go.Obj renaming cells → K
open _root_.Go.World renaming block_lt_of_cell? → E
open Go.RowKit
set_option maxRecDepth 100000
theorem Qv0 {bs:List Nat}(h:bs.length=4):num (fun i=>bs.getD i 0)=Qcn bs:=by
 match bs,h with
 | [a0,a1,a2,a3],_ =>
  rw [Qmy]
  show a0 * 16777216+a1 * 65536+a2 * 256+a3=_
  omega
theorem Qeg.drewN {w:World}{X:Nat}{c:Cp} (h:Qeg w X c) (m:Nat):Qeg (w.drewN m) X c:=h.block rfl
theorem Qvy (X:Nat)(c:Cp)(a:Option Addr)(cap:Nat)(bs:List Nat)(w:World)(hx:Qeg w X c)(hr:BRd w a bs) :
  Calls V 45 #[R (Z ⟨X,0,J⟩),Q U 65,I a bs.length cap] w fun e w'=>Qlr X (Qa1 65 bs c) e w'∧Qae (fun b=>b=X) w w':=by
 have e65:Qa1 65 bs c=if bs.length=4∧Qcn bs≠0 then Z (Qfe bs c) else J:=by unfold Qa1; rw [if_pos rfl]
 by_cases h4:bs.length=4
 ·obtain ⟨b,o,rfl,hc⟩:=hr.1.2 (by omega)
  have HN:=Qaa (Qf5 b o 4 cap (fun i=>bs.getD i 0) w (by omega) (fun i _=>Qau hr.2 i) (fun i hi=>hc i (by omega)))
  rw [Qv0 h4] at HN
  have HE:Hid (Qa1 65 bs c=if Qcn bs≠0 then Z (Qfe bs c) else J):=by
   show _=_
   rw [e65]
   by_cases h:Qcn bs≠0
   ·rw [if_pos ⟨h4,h⟩,if_pos h]
   ·rw [if_neg (fun h9=>h h9.2),if_neg h]
  have HX:=Qaa hx
  generalize Qa1 65 bs c=ro at *
  have HB:Hid (∀ m,Qeg (((w.drewN m).setCell ⟨X,0,J⟩ (D true)).setCell ⟨X,1,J⟩ (Q U (Qcn bs:Int))) X (Qfe bs c)∧Qae (fun b=>b=X) w (((w.drewN m).setCell ⟨X,0,J⟩ (D true)).setCell ⟨X,1,J⟩ (Q U (Qcn bs:Int)))):=fun m=>by
   obtain ⟨x0,x1,x2,x3,x4,x5,x6,x7,x8⟩:=(hx.drewN m).cells
   have k:∀ j v,(w.drewN m).cell? ⟨X,j,J⟩=Z v→(((w.drewN m).setCell ⟨X,0,J⟩ (D true)).setCell ⟨X,1,J⟩ (Q U (Qcn bs:Int))).cell? ⟨X,j,J⟩=Z (if 1=j then Q U (Qcn bs:Int) else if 0=j then D true else v):=fun j v h=>Qdh _ X 1 _ j _ (Qdh _ X 0 _ j _ h)
   refine ⟨⟨⟨k 0 _ x0,k 1 _ x1,k 2 _ x2,k 3 _ x3,k 4 _ x4,k 5 _ x5,k 6 _ x6,k 7 _ x7,k 8 _ x8⟩,fun j=>by rw [World.frozen?_setCell,World.frozen?_setCell]; exact (HX.out.drewN m).free j⟩,?_⟩
   exact ((Qae.mk rfl rfl rfl (Nat.le_refl _) (fun _ _ _=>rfl):Qae (fun b=>b=X) w (w.drewN m)).setCell X 0 _ (.inl rfl)).setCell X 1 _ (.inl rfl)
  clear hr hc e65 hx
  rw [h4]
  generalize Qcn bs=N at *
  clear h4
  go_enter Tryz.func45,Tryz.ntmps45
  go_wp2_with fail
  refine HN.out.mono ?_
  rintro e w1 ⟨rfl,m,hw1⟩
  have hb:=HB.out m
  rw [← hw1] at hb
  have HX1:Hid (Qeg w1 X c):=by rw [hw1]; exact HX.out.drewN m
  have HH8:=Qaa hb.1
  have HH9:=Qaa hb.2
  have hXs:=HX1.out.size
  obtain ⟨x0,x1,x2,x3,x4,x5,x6,x7,x8⟩:=HX1.out.cells
  have f0:=HX1.out.free 0
  have f1:=HX1.out.free 1
  clear hw1 hb HN HB HX
  go_wp2
  go_ret
  refine ⟨?_,HH9.out⟩
  show Qlr X ro (.returned (D ((N:Int) != 0))) _
  rw [HE.out]
  by_cases h0:N=0
  ·rw [if_neg (fun h=>h h0),h0]; rfl
  ·rw [if_pos h0,show ((N:Int) != 0)=true from by simpa using h0]; exact ⟨rfl,HH8.out⟩
 ·have HE:Hid (Qa1 65 bs c=J):=by show _=_; rw [e65,if_neg (fun h=>h4 h.1)]
  generalize Qa1 65 bs c=ro at *
  clear hr hx e65
  generalize bs.length=n at *
  have h4i:((n:Int) != 4)=true:=by simp; omega
  clear h4
  go_enter Tryz.func45,Tryz.ntmps45
  go_wp2
  go_ret
  exact ⟨Quu _ _ _ HE.out,Qae.refl _ _⟩
theorem Qx0 (X:Nat)(c:Cp)(k:Nat)(a:Option Addr)(n cap:Nat)(w:World)(hx:Qeg w X c)(h65:k≠65)(h64:k≠64)(h71:k≠71) :
  Calls V 45 #[R (Z ⟨X,0,J⟩),Q U (k:Int),I a n cap] w fun e w'=>Qlr X (Z c) e w'∧Qae (fun b=>b=X) w w':=by
 have HX:=Qaa hx
 have i65:((k:Int) == 65)=false:=by simp; omega
 have i64:((k:Int) == 64)=false:=by simp; omega
 have i71:((k:Int) == 71)=false:=by simp; omega
 clear hx h65 h64 h71
 go_enter Tryz.func45,Tryz.ntmps45
 go_wp2
 go_ret
 exact ⟨⟨rfl,HX.out⟩,Qae.refl _ _⟩
theorem Qvq (X:Nat)(a:Option Addr)(n cap:Nat)(w:World)(h:n % 4≠2)(hl:n≤10000) :
  Calls V 45 #[R (Z ⟨X,0,J⟩),Q U 64,I a n cap] w fun e w'=>e=.returned (D false)∧w'=w:=by
 have hm:((n:Int) % 4 != 2)=true:=by
  simp
  omega
 clear h
 go_enter Tryz.func45,Tryz.ntmps45
 go_wp2
 go_ret
 exact ⟨rfl,rfl⟩
def w5s (w:World)(X:Nat)(rs:Bool)(tm:Int):World:=((((w.setCell ⟨X,2,J⟩ (D true)).setCell ⟨X,3,J⟩ (D rs)).setCell ⟨X,4,J⟩ (Q U tm)).setCell ⟨X,5,J⟩ (D false)).setCell ⟨X,6,J⟩ (D false)
theorem Qs5 (w:World)(X:Nat)(rs:Bool)(tm:Int):Qae (fun b=>b=X) w (w5s w X rs tm) :=
 ((((((Qae.refl (fun b=>b=X) w).setCell X 2 _ (.inl rfl)).setCell X 3 _ (.inl rfl)).setCell X 4 _ (.inl rfl)).setCell X 5 _ (.inl rfl)).setCell X 6 _ (.inl rfl))
theorem Qz6 {w:World}{X:Nat}{c:Cp} (h:Qeg w X c) (rs:Bool) (tm:Int):Qeg (w5s w X rs tm) X { c with gr:=true,rs:=rs,tm:=tm,fam:=false,fwd:=false }:=by
 obtain ⟨x0,x1,x2,x3,x4,x5,x6,x7,x8⟩:=h.cells
 have k:∀ j v,w.cell? ⟨X,j,J⟩=Z v→(w5s w X rs tm).cell? ⟨X,j,J⟩=Z (if 6=j then D false else if 5=j then D false else if 4=j then Q U tm else if 3=j then D rs else if 2=j then D true else v):=fun j v h=>Qdh _ X 6 _ j _ (Qdh _ X 5 _ j _ (Qdh _ X 4 _ j _ (Qdh _ X 3 _ j _ (Qdh _ X 2 _ j _ h))))
 exact ⟨⟨k 0 _ x0,k 1 _ x1,k 2 _ x2,k 3 _ x3,k 4 _ x4,k 5 _ x5,k 6 _ x6,k 7 _ x7,k 8 _ x8⟩,fun j=>by unfold w5s; rw [World.frozen?_setCell,World.frozen?_setCell,World.frozen?_setCell,World.frozen?_setCell,World.frozen?_setCell]; exact h.free j⟩
theorem Qur (X:Nat)(c:Cp)(a:Option Addr)(cap:Nat)(bs:List Nat)(w:World)(hx:Qeg w X c)(hr:BRd w a bs)(hne:∀ x,a=Z x→0 < bs.length→x.block≠X)(hl:bs.length≤10000)(h:bs.length % 4=2) :
  Calls V 45 #[R (Z ⟨X,0,J⟩),Q U 64,I a bs.length cap] w fun e w'=>Qlr X (Z (Qls bs c)) e w'∧Qae (fun b=>b=X) w w':=by
 obtain ⟨b,o,rfl,hc⟩:=hr.1.2 (by omega)
 have hbX:b≠X:=hne ⟨b,o,J⟩ rfl (by omega)
 have HR:=Qaa hr
 have HX:=Qaa hx
 have hXs:=hx.size
 have y0:w.cell? ⟨b,o,J⟩=Z (Q .u8 (bs.getD 0 0:Int)):=hc 0 (by omega)
 have y1:w.cell? ⟨b,o+1,J⟩=Z (Q .u8 (bs.getD 1 0:Int)):=hc 1 (by omega)
 have hbs:=E w _ y0
 simp only at hbs
 have g0:=Qau hr.2 0
 have g1:=Qau hr.2 1
 obtain ⟨x0,x1,x2,x3,x4,x5,x6,x7,x8⟩:=hx.cells
 have f2:=hx.free 2
 have f3:=hx.free 3
 have f4:=hx.free 4
 have f5:=hx.free 5
 have f6:=hx.free 6
 have HN:Hid (∃ n,bs.length=n):=⟨_,rfl⟩
 obtain ⟨n,hn⟩:=HN.out
 have hmi:((n:Int) % 4 != 2)=false:=by rw [← hn]; simp; omega
 have n0:0 < n:=by omega
 have n1:1 < n:=by omega
 have l0:(0:Int) < (n:Int):=by omega
 have l1:(1:Int) < (n:Int):=by omega
 rw [hn]
 rw [hn] at hl
 have HNN:=Qaa hn
 have HN4:Hid (n % 4=2):=by show n % 4=2; rw [← hn]; exact h
 have hxb:X≠b:=Ne.symm hbX
 generalize hz0:bs.getD 0 0=z0 at *
 generalize hz1:bs.getD 1 0=z1 at *
 clear hc hr hx hne HN hn
 obtain ⟨pc,hpc⟩:∃ pc,pc=Qls bs c:=⟨_,rfl⟩
 rw [← hpc]
 obtain ⟨four,as4,gr,rs,tm,fam,fwd,ll,lt⟩:=c
 simp only at *
 have HPC:=Qaa hpc
 clear hpc
 go_enter Tryz.func45,Tryz.ntmps45
 go_wp2_with fail
 go_region
 have HB5:=Qaa (Qz6 HX.out (decide ((128:Int)≤(z0:Int))) (256 * ((z0:Int) % 16)+(z1:Int)))
 have HK5:=Qaa (Qs5 w X (decide ((128:Int)≤(z0:Int))) (256 * ((z0:Int) % 16)+(z1:Int)))
 unfold w5s at HB5 HK5
 generalize (((((w.setCell ⟨X,2,J⟩ (D true)).setCell ⟨X,3,J⟩ (D (decide ((128:Int)≤(z0:Int))))).setCell ⟨X,4,J⟩ (Q U (256 * ((z0:Int) % 16)+(z1:Int)))).setCell ⟨X,5,J⟩ (D false)).setCell ⟨X,6,J⟩ (D false))=W at *
 have HP:Hid (pc=⟨four,as4,true,decide ((128:Int)≤(z0:Int)),256 * ((z0:Int) % 16)+(z1:Int),(Qf4 4 (bs.drop 2)).isSome,Qnr (Qf4 4 (bs.drop 2)),ll,lt⟩):=by
  show _=_
  rw [HPC.out]
  unfold Qls
  rw [hz0,hz1]
  have e1:decide (128≤z0)=decide ((128:Int)≤(z0:Int)):=by rw [Bool.eq_iff_iff]; simp; omega
  have e2:((z0 % 16 * 256+z1:Nat):Int)=256 * ((z0:Int) % 16)+(z1:Int):=by omega
  rw [e1,e2]
 clear HPC
 obtain ⟨R2,hR2⟩:∃ R2,R2=decide ((128:Int)≤(z0:Int)):=⟨_,rfl⟩
 obtain ⟨T2,hT2⟩:∃ T2,T2=256 * ((z0:Int) % 16)+(z1:Int):=⟨_,rfl⟩
 rw [← hR2,← hT2] at HP HB5
 obtain ⟨fu,hfu⟩:∃ fu,fu=Qf4 4 (bs.drop 2):=⟨_,rfl⟩
 rw [← hfu] at HP
 have HFU:=Qaa hfu
 clear hR2 hT2 hz0 hz1 hfu x0 x1 x2 x3 x4 x5 x6 x7 x8 f2 f3 f4 f5 f6 y0 y1 HX h
 go_wp2
 go_loopw [7] (fun iv wq=>∃ (i:Nat) (fam fwd:Bool),iv=Q U (i:Int)∧i≤n∧Hid (i % 4=2)∧Hid (Qeg wq X ⟨four,as4,true,R2,T2,fam,fwd,ll,lt⟩)∧Hid (Qae (fun b=>b=X) w wq)∧Hid (fam=true∧fu.isSome=true∧Qnr fu=fwd∨fam=false∧fwd=false∧fu=Qf4 4 (bs.drop i))) (fun iv _=>n - (intOf iv).toNat)
 case atStart=>exact ⟨2,false,false,rfl,by omega,rfl,HB5.out.block rfl,HK5.out.drew,.inr ⟨rfl,rfl,HFU.out⟩⟩
 case round =>
  obtain ⟨i,fm,fw,rfl,hin,HI,HB,HK,HF⟩:=hrel
  clear HB5 HK5
  by_cases hlt:i < n
  ·have hi4:i+4≤n:=by have:=HI.out; have:=HN4.out; omega
   have hrw:BRd wr (Z ⟨b,o,J⟩) bs:=HR.out.keeps HK.out (fun x e _=>by cases e; exact hbX)
   obtain ⟨b9,o9,e9,hc⟩:=hrw.1.2 (by rw [HNN.out]; omega)
   cases e9
   have c0:wr.cell? ⟨b,o+i,J⟩=Z (Q .u8 (bs.getD i 0:Int)):=hc i (by rw [HNN.out]; omega)
   have c1:wr.cell? ⟨b,o+(i+1),J⟩=Z (Q .u8 (bs.getD (i+1) 0:Int)):=hc (i+1) (by rw [HNN.out]; omega)
   have c2:wr.cell? ⟨b,o+(i+2),J⟩=Z (Q .u8 (bs.getD (i+2) 0:Int)):=hc (i+2) (by rw [HNN.out]; omega)
   have c3:wr.cell? ⟨b,o+(i+3),J⟩=Z (Q .u8 (bs.getD (i+3) 0:Int)):=hc (i+3) (by rw [HNN.out]; omega)
   have g3:=Qau HR.out.2 (i+3)
   have hbw:=E wr _ c0
   simp only at hbw
   obtain ⟨x0,x1,x2,x3,x4,x5,x6,x7,x8⟩:=HB.out.cells
   have f5:=HB.out.free 5
   have f6:=HB.out.free 6
   have hXw:=HB.out.size
   simp only at x0 x1 x2 x3 x4 x5 x6 x7 x8
   have hdl:(bs.drop i).length=n - i:=by rw [T,HNN.out]
   have ht3:(bs.drop i).take 3=[bs.getD i 0,bs.getD (i+1) 0,bs.getD (i+2) 0]:=by
    rw [Qzf (by omega)]
    simp only [Y,List.getElem?_drop,Nat.add_zero]
   have HMISS:Hid (¬ (bs.getD i 0=0∧bs.getD (i+1) 0=1∧bs.getD (i+2) 0=1)→fm=true∧fu.isSome=true∧Qnr fu=fw∨fm=false∧fw=false∧fu=Qf4 4 (bs.drop (i+4))):=fun hno=>by
    rcases HF.out with hh | ⟨h1,h2,h3⟩
    ·exact .inl hh
    ·refine .inr ⟨h1,h2,?_⟩
     rw [h3,Qkk (by omega) (by omega) (by rw [ht3]; intro h9; simp only [List.cons.injEq,and_true] at h9; exact hno h9),List.drop_drop]
   have HHIT:Hid ((bs.getD i 0=0∧bs.getD (i+1) 0=1∧bs.getD (i+2) 0=1)→fm=false→fu.isSome=true∧Qnr fu=decide (128≤bs.getD (i+3) 0)):=fun hy hf=>by
    rcases HF.out with ⟨h1,_⟩ | ⟨h1,h2,h3⟩
    ·rw [h1] at hf; cases hf
    ·rw [h3,Qma (by omega) (by rw [ht3,hy.1,hy.2.1,hy.2.2])]
     refine ⟨rfl,?_⟩
     show decide (128≤((bs.drop i).take 4).getD 3 0)=_
     rw [Y,List.getElem?_take_of_lt (by omega),List.getElem?_drop,Y]
   generalize bs.getD i 0=t0 at *
   generalize bs.getD (i+1) 0=t1 at *
   generalize bs.getD (i+2) 0=t2 at *
   generalize bs.getD (i+3) 0=t3 at *
   have l0:(0:Int)≤(i:Int):=Int.natCast_nonneg _
   have l1:(i:Int) < (n:Int):=by omega
   have l2:(i:Int)+1 < (n:Int):=by omega
   have l3:(i:Int)+2 < (n:Int):=by omega
   have l4:(i:Int)+3 < (n:Int):=by omega
   clear hc hrw ht3 hdl
   by_cases e0:t0=0
   ·by_cases e1:t1=1
    ·by_cases e2:t2=1
     ·cases fm with
      | true =>
       have HF2:Hid (true=true∧fu.isSome=true∧Qnr fu=fw∨true=false∧fw=false∧fu=Qf4 4 (bs.drop (i+4))):=by
        rcases HF.out with hh | ⟨h1,_⟩
        ·exact .inl hh
        ·cases h1
       subst e0 e1 e2
       clear HMISS HHIT HF
       go_wp2
       exact ⟨⟨i+4,true,fw,by go_num,by omega,by have:=HI.out; show (i+4) % 4=2; omega,HB,HK,HF2⟩,by simp [intOf]; omega⟩
      | false =>
       obtain ⟨k1,k2⟩:=HHIT.out ⟨e0,e1,e2⟩ rfl
       have HF2:Hid (true=true∧fu.isSome=true∧Qnr fu=decide (128≤t3)∨true=false∧decide (128≤t3)=false∧fu=Qf4 4 (bs.drop (i+4))):=.inl ⟨rfl,k1,k2⟩
       have HB2:=Qaa (Qjv HB.out true (decide (128≤t3)))
       have HK2:=Qaa ((HK.out.setCell X 5 (D true) (.inl rfl)).setCell X 6 (D (decide (128≤t3))) (.inl rfl))
       have e9:decide ((128:Int)≤(t3:Int))=decide (128≤t3):=by rw [Bool.eq_iff_iff]; simp; omega
       subst e0 e1 e2
       clear HMISS HHIT HF k1 k2
       go_wp2
       exact ⟨⟨i+4,true,decide (128≤t3),by go_num,by omega,by have:=HI.out; show (i+4) % 4=2; omega,HB2,HK2,HF2⟩,by simp [intOf]; omega⟩
     ·have HF2:=Qaa (HMISS.out (fun h=>e2 h.2.2))
      have i2:((t2:Int) == 1)=false:=by simp; omega
      subst e0 e1
      clear HMISS HHIT HF e2
      go_wp2
      exact ⟨⟨i+4,fm,fw,by go_num,by omega,by have:=HI.out; show (i+4) % 4=2; omega,HB,HK,HF2⟩,by simp [intOf]; omega⟩
    ·have HF2:=Qaa (HMISS.out (fun h=>e1 h.2.1))
     have i1:((t1:Int) == 1)=false:=by simp; omega
     subst e0
     clear HMISS HHIT HF e1
     go_wp2
     exact ⟨⟨i+4,fm,fw,by go_num,by omega,by have:=HI.out; show (i+4) % 4=2; omega,HB,HK,HF2⟩,by simp [intOf]; omega⟩
   ·have HF2:=Qaa (HMISS.out (fun h=>e0 h.1))
    have i0:((t0:Int) == 0)=false:=by simp; omega
    clear HMISS HHIT HF e0
    go_wp2
    exact ⟨⟨i+4,fm,fw,by go_num,by omega,by have:=HI.out; show (i+4) % 4=2; omega,HB,HK,HF2⟩,by simp [intOf]; omega⟩
  ·have HQ:Hid (pc=⟨four,as4,true,R2,T2,fm,fw,ll,lt⟩):=by
    show pc=_
    rw [HP.out]
    rcases HF.out with ⟨h1,h2,h3⟩ | ⟨h1,h2,h3⟩
    ·rw [h2,h3,h1]
    ·rw [h3,Ql6 (by rw [T,HNN.out]; omega),h1,h2]; rfl
   have hi2:¬ ((i:Int) < (n:Int)):=by omega
   go_wp2
   go_ret
   exact ⟨Qf2 rfl (by rw [HQ.out]; exact HB.out),HK.out⟩
theorem Qwx (X:Nat)(c:Cp)(a:Option Addr)(cap:Nat)(bs:List Nat)(w:World)(hx:Qeg w X c)(hr:BRd w a bs)(hne:∀ x,a=Z x→0 < bs.length→x.block≠X)(hl:bs.length≤10000) :
  Calls V 45 #[R (Z ⟨X,0,J⟩),Q U 64,I a bs.length cap] w fun e w'=>Qlr X (Qa1 64 bs c) e w'∧Qae (fun b=>b=X) w w':=by
 have e64:Qa1 64 bs c=if bs.length % 4=2 then Z (Qls bs c) else J:=by unfold Qa1; rw [if_neg (by omega),if_pos rfl]
 rw [e64]
 by_cases h:bs.length % 4=2
 ·rw [if_pos h]; exact Qur X c a cap bs w hx hr hne hl h
 ·rw [if_neg h]
  refine (Qvq X a bs.length cap w h hl).mono fun e w' ⟨h1,h2⟩=>⟨?_,by rw [h2]; exact Qae.refl _ _⟩
  rw [h1]; rfl
theorem Qw5 (X:Nat)(a:Option Addr)(n cap:Nat)(w:World)(h:n % 7≠0)(hl:n≤10000) :
  Calls V 45 #[R (Z ⟨X,0,J⟩),Q U 71,I a n cap] w fun e w'=>e=.returned (D false)∧w'=w:=by
 have hm:((n:Int) % 7 != 0)=true:=by
  simp
  omega
 clear h
 go_enter Tryz.func45,Tryz.ntmps45
 go_wp2
 go_ret
 exact ⟨rfl,rfl⟩
theorem Qtr (X:Nat)(c:Cp)(a:Option Addr)(cap:Nat)(bs:List Nat)(w:World)(hx:Qeg w X c)(hr:BRd w a bs)(hne:∀ x,a=Z x→0 < bs.length→x.block≠X)(hl:bs.length≤10000)(h:bs.length % 7=0) :
  Calls V 45 #[R (Z ⟨X,0,J⟩),Q U 71,I a bs.length cap] w fun e w'=>Qlr X (Z (Ql4 bs c)) e w'∧Qae (fun b=>b=X) w w':=by
 have HR:=Qaa hr
 have hXs:=hx.size
 have HNE:=Qaa hne
 have HB5:=Qaa (Qtw hx false 0)
 have HK5:=Qaa (((Qae.refl (fun b=>b=X) w).setCell X 7 (D false) (.inl rfl)).setCell X 8 (Q U 0) (.inl rfl))
 obtain ⟨x0,x1,x2,x3,x4,x5,x6,x7,x8⟩:=hx.cells
 have f7:=hx.free 7
 have f8:=hx.free 8
 have HN:Hid (∃ n,bs.length=n):=⟨_,rfl⟩
 obtain ⟨n,hn⟩:=HN.out
 have hmi:((n:Int) % 7 != 0)=false:=by rw [← hn]; simp; omega
 rw [hn]
 rw [hn] at hl
 have HNN:=Qaa hn
 have HN4:Hid (n % 7=0):=by show n % 7=0; rw [← hn]; exact h
 have HP0:Hid (Ql4 bs c={ c with ll:=(Qf4 7 bs).isSome,lt:=(Qr1 (Qf4 7 bs):Int) }):=rfl
 generalize Ql4 bs c=pc at *
 clear hr hx hne HN hn h
 obtain ⟨four,as4,gr,rs,tm,fam,fwd,ll,lt⟩:=c
 simp only at *
 obtain ⟨fu,hfu⟩:∃ fu,fu=Qf4 7 bs:=⟨_,rfl⟩
 rw [← hfu] at HP0
 have HFU:=Qaa hfu
 clear hfu
 go_enter Tryz.func45,Tryz.ntmps45
 go_wp2_with fail
 generalize ((w.setCell ⟨X,7,J⟩ (D false)).setCell ⟨X,8,J⟩ (Q U 0))=W at *
 clear x0 x1 x2 x3 x4 x5 x6 x7 x8 f7 f8
 go_loopw [8] (fun iv wq=>∃ (i:Nat) (fl:Bool) (L:Nat),iv=Q U (i:Int)∧i≤n∧Hid (i % 7=0)∧Hid (Qeg wq X ⟨four,as4,gr,rs,tm,fam,fwd,fl,(L:Int)⟩)∧Hid (Qae (fun b=>b=X) w wq)∧Hid (fl=true∧fu.isSome=true∧Qr1 fu=L∨fl=false∧L=0∧fu=Qf4 7 (bs.drop i))) (fun iv _=>n - (intOf iv).toNat)
 case atStart=>exact ⟨0,false,0,rfl,by omega,rfl,HB5,HK5,.inr ⟨rfl,rfl,HFU.out⟩⟩
 case round =>
  obtain ⟨i,fm,fw,rfl,hin,HI,HB,HK,HF⟩:=hrel
  clear HB5 HK5
  by_cases hlt:i < n
  ·have hi4:i+7≤n:=by have:=HI.out; have:=HN4.out; omega
   obtain ⟨b,o,rfl,_⟩:=HR.out.1.2 (by rw [HNN.out]; omega)
   have hbX:b≠X:=HNE.out ⟨b,o,J⟩ rfl (by rw [HNN.out]; omega)
   have hxb:X≠b:=Ne.symm hbX
   have hrw:BRd wr (Z ⟨b,o,J⟩) bs:=HR.out.keeps HK.out (fun x e _=>by cases e; exact hbX)
   obtain ⟨b9,o9,e9,hc⟩:=hrw.1.2 (by rw [HNN.out]; omega)
   cases e9
   have c0:wr.cell? ⟨b,o+i,J⟩=Z (Q .u8 (bs.getD i 0:Int)):=hc i (by rw [HNN.out]; omega)
   have c1:wr.cell? ⟨b,o+(i+1),J⟩=Z (Q .u8 (bs.getD (i+1) 0:Int)):=hc (i+1) (by rw [HNN.out]; omega)
   have c2:wr.cell? ⟨b,o+(i+2),J⟩=Z (Q .u8 (bs.getD (i+2) 0:Int)):=hc (i+2) (by rw [HNN.out]; omega)
   have c4:wr.cell? ⟨b,o+(i+4),J⟩=Z (Q .u8 (bs.getD (i+4) 0:Int)):=hc (i+4) (by rw [HNN.out]; omega)
   have c5:wr.cell? ⟨b,o+(i+5),J⟩=Z (Q .u8 (bs.getD (i+5) 0:Int)):=hc (i+5) (by rw [HNN.out]; omega)
   have c6:wr.cell? ⟨b,o+(i+6),J⟩=Z (Q .u8 (bs.getD (i+6) 0:Int)):=hc (i+6) (by rw [HNN.out]; omega)
   have g4:=Qau HR.out.2 (i+4)
   have g5:=Qau HR.out.2 (i+5)
   have g6:=Qau HR.out.2 (i+6)
   have hbw:=E wr _ c0
   simp only at hbw
   obtain ⟨x0,x1,x2,x3,x4,x5,x6,x7,x8⟩:=HB.out.cells
   have f7:=HB.out.free 7
   have f8:=HB.out.free 8
   have hXw:=HB.out.size
   simp only at x0 x1 x2 x3 x4 x5 x6 x7 x8
   have hdl:(bs.drop i).length=n - i:=by rw [T,HNN.out]
   have ht3:(bs.drop i).take 3=[bs.getD i 0,bs.getD (i+1) 0,bs.getD (i+2) 0]:=by
    rw [Qzf (by omega)]
    simp only [Y,List.getElem?_drop,Nat.add_zero]
   have HMISS:Hid (¬ (bs.getD i 0=0∧bs.getD (i+1) 0=1∧bs.getD (i+2) 0=1)→fm=true∧fu.isSome=true∧Qr1 fu=fw∨fm=false∧fw=0∧fu=Qf4 7 (bs.drop (i+7))):=fun hno=>by
    rcases HF.out with hh | ⟨h1,h2,h3⟩
    ·exact .inl hh
    ·refine .inr ⟨h1,h2,?_⟩
     rw [h3,Qkk (by omega) (by omega) (by rw [ht3]; intro h9; simp only [List.cons.injEq,and_true] at h9; exact hno h9),List.drop_drop]
   have HHIT:Hid ((bs.getD i 0=0∧bs.getD (i+1) 0=1∧bs.getD (i+2) 0=1)→fm=false→fu.isSome=true∧Qr1 fu=bs.getD (i+4) 0 * 65536+bs.getD (i+5) 0 * 256+bs.getD (i+6) 0):=fun hy hf=>by
    rcases HF.out with ⟨h1,_⟩ | ⟨h1,h2,h3⟩
    ·rw [h1] at hf; cases hf
    ·rw [h3,Qma (by omega) (by rw [ht3,hy.1,hy.2.1,hy.2.2])]
     refine ⟨rfl,?_⟩
     show ((bs.drop i).take 7).getD 4 0 * 65536+((bs.drop i).take 7).getD 5 0 * 256+((bs.drop i).take 7).getD 6 0=_
     have e:∀ q,q < 7→((bs.drop i).take 7).getD q 0=bs.getD (i+q) 0:=fun q hq=>by
      rw [Y,List.getElem?_take_of_lt hq,List.getElem?_drop,Y]
     rw [e 4 (by omega),e 5 (by omega),e 6 (by omega)]
   generalize bs.getD i 0=t0 at *
   generalize bs.getD (i+1) 0=t1 at *
   generalize bs.getD (i+2) 0=t2 at *
   generalize bs.getD (i+4) 0=t4 at *
   generalize bs.getD (i+5) 0=t5 at *
   generalize bs.getD (i+6) 0=t6 at *
   have l0:(0:Int)≤(i:Int):=Int.natCast_nonneg _
   have l1:(i:Int) < (n:Int):=by omega
   have l2:(i:Int)+1 < (n:Int):=by omega
   have l3:(i:Int)+2 < (n:Int):=by omega
   have l4:(i:Int)+4 < (n:Int):=by omega
   have l5:(i:Int)+5 < (n:Int):=by omega
   have l6:(i:Int)+6 < (n:Int):=by omega
   have n0:i < n:=hlt
   have n4:i+4 < n:=by omega
   have n5:i+5 < n:=by omega
   have n6:i+6 < n:=by omega
   have v1:IntKind.i64.wrap ((i:Int)+4)=(i:Int)+4:=by rw [IntKind.wrap_i64]; omega
   have v2:IntKind.i64.wrap ((i:Int)+5)=(i:Int)+5:=by rw [IntKind.wrap_i64]; omega
   have v3:IntKind.i64.wrap ((i:Int)+6)=(i:Int)+6:=by rw [IntKind.wrap_i64]; omega
   clear hc hrw ht3 hdl
   by_cases e0:t0=0
   ·by_cases e1:t1=1
    ·by_cases e2:t2=1
     ·cases fm with
      | true =>
       have HF2:Hid (true=true∧fu.isSome=true∧Qr1 fu=fw∨true=false∧fw=0∧fu=Qf4 7 (bs.drop (i+7))):=by
        rcases HF.out with hh | ⟨h1,_⟩
        ·exact .inl hh
        ·cases h1
       subst e0 e1 e2
       clear HMISS HHIT HF
       go_wp2
       exact ⟨⟨i+7,true,fw,by go_num,by omega,by have:=HI.out; show (i+7) % 7=0; omega,HB,HK,HF2⟩,by simp [intOf]; omega⟩
      | false =>
       obtain ⟨k1,k2⟩:=HHIT.out ⟨e0,e1,e2⟩ rfl
       obtain ⟨L2,hL2⟩:∃ L2,L2=t4 * 65536+t5 * 256+t6:=⟨_,rfl⟩
       rw [← hL2] at k2
       have HKK:Hid (fu.isSome=true∧Qr1 fu=L2):=⟨k1,k2⟩
       have HB2:=Qaa (Qtw HB.out true (L2:Int))
       have HK2:=Qaa ((HK.out.setCell X 7 (D true) (.inl rfl)).setCell X 8 (Q U (L2:Int)) (.inl rfl))
       have HL2:Hid (65536 * (t4:Int)+256 * (t5:Int)+(t6:Int)=(L2:Int)):=by show _=_; omega
       subst e0 e1 e2
       clear HMISS HHIT HF k1 k2 hL2
       go_wp2_with fail
       go_region
       rw [HL2.out]
       go_wp2
       exact ⟨⟨i+7,true,L2,by go_num,by omega,by have:=HI.out; show (i+7) % 7=0; omega,HB2.out.block rfl,HK2.out.drew,.inl ⟨rfl,HKK.out.1,HKK.out.2⟩⟩,by simp [intOf]; omega⟩
     ·have HF2:=Qaa (HMISS.out (fun h=>e2 h.2.2))
      have i2:((t2:Int) == 1)=false:=by simp; omega
      subst e0 e1
      clear HMISS HHIT HF e2
      go_wp2
      exact ⟨⟨i+7,fm,fw,by go_num,by omega,by have:=HI.out; show (i+7) % 7=0; omega,HB,HK,HF2⟩,by simp [intOf]; omega⟩
    ·have HF2:=Qaa (HMISS.out (fun h=>e1 h.2.1))
     have i1:((t1:Int) == 1)=false:=by simp; omega
     subst e0
     clear HMISS HHIT HF e1
     go_wp2
     exact ⟨⟨i+7,fm,fw,by go_num,by omega,by have:=HI.out; show (i+7) % 7=0; omega,HB,HK,HF2⟩,by simp [intOf]; omega⟩
   ·have HF2:=Qaa (HMISS.out (fun h=>e0 h.1))
    have i0:((t0:Int) == 0)=false:=by simp; omega
    clear HMISS HHIT HF e0
    go_wp2
    exact ⟨⟨i+7,fm,fw,by go_num,by omega,by have:=HI.out; show (i+7) % 7=0; omega,HB,HK,HF2⟩,by simp [intOf]; omega⟩
  ·have HQ:Hid (pc=⟨four,as4,gr,rs,tm,fam,fwd,fm,(fw:Int)⟩):=by
    show pc=_
    rw [HP0.out]
    rcases HF.out with ⟨h1,h2,h3⟩ | ⟨h1,h2,h3⟩
    ·rw [h2,h3,h1]
    ·rw [h3,Ql6 (by rw [T,HNN.out]; omega),h1,h2]; rfl
   have hi2:¬ ((i:Int) < (n:Int)):=by omega
   go_wp2
   go_ret
   exact ⟨Qf2 rfl (by rw [HQ.out]; exact HB.out),HK.out⟩
theorem Qvw (X:Nat)(c:Cp)(a:Option Addr)(cap:Nat)(bs:List Nat)(w:World)(hx:Qeg w X c)(hr:BRd w a bs)(hne:∀ x,a=Z x→0 < bs.length→x.block≠X)(hl:bs.length≤10000) :
  Calls V 45 #[R (Z ⟨X,0,J⟩),Q U 71,I a bs.length cap] w fun e w'=>Qlr X (Qa1 71 bs c) e w'∧Qae (fun b=>b=X) w w':=by
 have e71:Qa1 71 bs c=if bs.length % 7=0 then Z (Ql4 bs c) else J:=by unfold Qa1; rw [if_neg (by omega),if_neg (by omega),if_pos rfl]
 rw [e71]
 by_cases h:bs.length % 7=0
 ·rw [if_pos h]; exact Qtr X c a cap bs w hx hr hne hl h
 ·rw [if_neg h]
  refine (Qw5 X a bs.length cap w h hl).mono fun e w' ⟨h1,h2⟩=>⟨?_,by rw [h2]; exact Qae.refl _ _⟩
  rw [h1]; rfl
theorem Qt6 (X:Nat)(c:Cp)(k:Nat)(a:Option Addr)(cap:Nat)(bs:List Nat)(w:World)(hx:Qeg w X c)(hr:BRd w a bs)(hne:∀ x,a=Z x→0 < bs.length→x.block≠X)(hl:bs.length≤10000) :
  Calls V 45 #[R (Z ⟨X,0,J⟩),Q U (k:Int),I a bs.length cap] w fun e w'=>Qlr X (Qa1 k bs c) e w'∧Qae (fun b=>b=X) w w':=by
 by_cases h65:k=65
 ·subst h65; exact Qvy X c a cap bs w hx hr
 ·by_cases h64:k=64
  ·subst h64; exact Qwx X c a cap bs w hx hr hne hl
  ·by_cases h71:k=71
   ·subst h71; exact Qvw X c a cap bs w hx hr hne hl
   ·have e:Qa1 k bs c=Z c:=by unfold Qa1; rw [if_neg h65,if_neg h64,if_neg h71]
    rw [e]
    exact Qx0 X c k a bs.length cap w hx h65 h64 h71
theorem Tryz.infoByteS:(V.info? 22).map (fun i=>(i.zero,i.size,i.bytes))=Z (Z (I J 0 0),1,24):=by kernel_rfl
theorem elemBytes:Qsr 87 22 1 24:=by
 obtain ⟨i,h1,h2,h3,h4⟩:=Qcz Tryz.infoByteS
 exact ⟨Tryz.underlying87,⟨i,_,h1,h2,h3,h4,rfl⟩,by omega,by omega⟩
theorem Qze {W:World}{B:Nat}{t v:Value}{n m:Nat}{ts:List Int}{cs:List Value} (ht:W.ownsRow B 3 1 t n (Qbi ts)) (hv:W.ownsRow B 22 1 v m cs) (hB:B≤W.heap.size) (hl:n≤20000) (g:Nat) (z:Int) (hc:W.cell? ⟨g,0,J⟩=Z (Q U z)) :
  ∃ t' W',(Builtin.append_ #[86,86] 86 #[t,I (Z ⟨g,0,J⟩) 1 1]).run V W=.ok t' W'∧W'.ownsRow B 3 1 t' (n+1) (Qbi (ts++[z]))∧W'.ownsRow B 22 1 v m cs∧Below B W W'∧∀ X,X < W.heap.size→t.ownBlock≠Z X→W'.heap[X]?=W.heap[X]?:=by
 obtain ⟨t',W',hr,h2,h3,h4,_⟩:=Qe7 elemInt ht hB ⟨g,0,J⟩ 1 1 (Qbi [z]) rfl (fun j u hu=>by
  match j,hu with
  | 0,hu=>simp [Qbi] at hu; subst hu; simpa [Addr.add] using hc
  | j+1,hu=>simp [Qbi] at hu) (Qlf _) (by omega)
 exact ⟨t',W',hr,by rw [Qkx]; exact h2,Qdx hv h4 (fun b hb=>Qdq hv ht (by decide) b hb),h3,fun X hX hne=>h4.block X hX (Ne.symm hne)⟩
theorem Qz2 {W:World}{B:Nat}{t v:Value}{n m:Nat}{ts:List Int}{cs:List Value} (ht:W.ownsRow B 3 1 t n (Qbi ts)) (hv:W.ownsRow B 22 1 v m cs) (hB:B≤W.heap.size) (hl:m≤20000) (g:Nat) (a:Option Addr) (l c:Nat) (hc:W.cell? ⟨g,0,J⟩=Z (I a l c)) :
  ∃ v' W',(Builtin.append_ #[87,87] 87 #[v,I (Z ⟨g,0,J⟩) 1 1]).run V W=.ok v' W'∧W'.ownsRow B 3 1 t n (Qbi ts)∧W'.ownsRow B 22 1 v' (m+1) (cs++[I a l c])∧Below B W W'∧∀ X,X < W.heap.size→v.ownBlock≠Z X→W'.heap[X]?=W.heap[X]?:=by
 obtain ⟨v',W',hr,h2,h3,h4,_⟩:=Qe7 elemBytes hv hB ⟨g,0,J⟩ 1 1 [I a l c] rfl (fun j u hu=>by
  match j,hu with
  | 0,hu=>simp at hu; subst hu; simpa [Addr.add] using hc
  | j+1,hu=>simp at hu) (fun u hu=>by simp at hu; subst hu; rfl) (by omega)
 exact ⟨v',W',hr,Qdx ht h4 (fun b hb=>Qdq ht hv (by decide) b hb),h2,h3,fun X hX hne=>h4.block X hX (Ne.symm hne)⟩
def Qz5 (B:Nat)(w1 w2:World)(t v:Value)(n:Nat)(ts:List Int)(cs:List Value):Prop:=w2.ownsRow B 3 1 t n (Qbi ts)∧w2.ownsRow B 22 1 v n cs∧Below B w1 w2
section
variable {w:World}{B:Nat}{t v:Value}{n:Nat}{ts:List Int}{cs:List Value}
theorem Qzj (ht:w.ownsRow B 3 1 t n (Qbi ts))(hv:w.ownsRow B 22 1 v n cs)(hB:B≤w.heap.size)(hl:n≤10000)(z:Int)(a:Option Addr)(l c:Nat) :
  ∃ t1 w1,(Builtin.append_ #[86,86] 86 #[t,I (Z ⟨w.heap.size,0,J⟩) 1 1]).run V (w.alloc (K #[Q U z] 3)).drew=.ok t1 w1∧Below B w w1 ∧
   ∃ v1 w2,(Builtin.append_ #[87,87] 87 #[v,I (Z ⟨w1.heap.size,0,J⟩) 1 1]).run V (w1.alloc (K #[I a l c] 22))=.ok v1 w2∧Qz5 B w w2 t1 v1 (n+1) (ts++[z]) (cs++[I a l c]):=by
 have hb0:Below B w (w.alloc (K #[Q U z] 3)).drew:=((Below.refl _ _).alloc hB _).drew
 obtain ⟨t1,w1,h1,h2,h3,h4,_⟩:=Qze ((ht.alloc (K #[Q U z] 3)).drew) ((hv.alloc _).drew) (Nat.le_trans hB hb0.size) (by omega) w.heap.size z (by rw [World.cell?_drew,World.cell?_alloc_mark]; rfl)
 have hB1:B≤w1.heap.size:=Nat.le_trans (Nat.le_trans hB hb0.size) h4.size
 have hb1:Below B w1 (w1.alloc (K #[I a l c] 22)):=(Below.refl _ _).alloc hB1 _
 obtain ⟨v1,w2,k1,k2,k3,k4,_⟩:=Qz2 (h2.alloc (K #[I a l c] 22)) (h3.alloc _) (Nat.le_trans hB1 hb1.size) (by omega) w1.heap.size a l c (by rw [World.cell?_alloc_mark]; rfl)
 exact ⟨t1,w1,h1,hb0.trans h4,v1,w2,k1,k2,k3,(hb0.trans h4).trans (hb1.trans k4)⟩
theorem Qx5 {W:World}{gi gs:Nat} (ht:W.ownsRow B 3 1 t n (Qbi ts)) (hv:W.ownsRow B 22 1 v n cs) (hB:B≤W.heap.size) (hbW:Below B w W) (hl:n≤10000) (z:Int) (a:Option Addr) (l c:Nat) (hi:W.cell? ⟨gi,0,J⟩=Z (Q U z)) (hs:W.cell? ⟨gs,0,J⟩=Z (I a l c)) (nt:t.ownBlock≠Z gs) (nv:v.ownBlock≠Z gi) :
  (∃ t1 w1,(Builtin.append_ #[86,86] 86 #[t,I (Z ⟨gi,0,J⟩) 1 1]).run V W=.ok t1 w1∧Below B w w1 ∧
   ∃ v1 w2,(Builtin.append_ #[87,87] 87 #[v,I (Z ⟨gs,0,J⟩) 1 1]).run V w1=.ok v1 w2∧Qz5 B w w2 t1 v1 (n+1) (ts++[z]) (cs++[I a l c])) ∧
  (∃ v1 w1,(Builtin.append_ #[87,87] 87 #[v,I (Z ⟨gs,0,J⟩) 1 1]).run V W=.ok v1 w1∧Below B w w1 ∧
   ∃ t1 w2,(Builtin.append_ #[86,86] 86 #[t,I (Z ⟨gi,0,J⟩) 1 1]).run V w1=.ok t1 w2∧Qz5 B w w2 t1 v1 (n+1) (ts++[z]) (cs++[I a l c])):=by
 have li:=E W _ hi
 have ls:=E W _ hs
 constructor
 ·obtain ⟨t1,w1,h1,h2,h3,h4,h5⟩:=Qze ht hv hB (by omega) gi z hi
  obtain ⟨v1,w2,k1,k2,k3,k4,_⟩:=Qz2 h2 h3 (Nat.le_trans hB h4.size) (by omega) gs a l c (by rw [World.cell?_of_block (w:=W) (h5 gs ls nt)]; exact hs)
  exact ⟨t1,w1,h1,hbW.trans h4,v1,w2,k1,k2,k3,hbW.trans (h4.trans k4)⟩
 ·obtain ⟨v1,w1,h1,h2,h3,h4,h5⟩:=Qz2 ht hv hB (by omega) gs a l c hs
  obtain ⟨t1,w2,k1,k2,k3,k4,_⟩:=Qze h2 h3 (Nat.le_trans hB h4.size) (by omega) gi z (by rw [World.cell?_of_block (w:=W) (h5 gi li nv)]; exact hi)
  exact ⟨v1,w1,h1,hbW.trans h4,t1,w2,k1,k2,k3,hbW.trans (h4.trans k4)⟩
theorem Qtk (ht:w.ownsRow B 3 1 t n (Qbi ts))(hv:w.ownsRow B 22 1 v n cs)(hB:B≤w.heap.size)(hl:n≤10000)(z:Int)(a:Option Addr)(l c:Nat) :
  (∃ t1 w1,(Builtin.append_ #[86,86] 86 #[t,I (Z ⟨w.heap.size,0,J⟩) 1 1]).run V ((w.alloc (K #[Q U z] 3)).alloc (K #[I a l c] 22)).drew=.ok t1 w1∧Below B w w1 ∧
   ∃ v1 w2,(Builtin.append_ #[87,87] 87 #[v,I (Z ⟨w.heap.size+1,0,J⟩) 1 1]).run V w1=.ok v1 w2∧Qz5 B w w2 t1 v1 (n+1) (ts++[z]) (cs++[I a l c])) ∧
  (∃ v1 w1,(Builtin.append_ #[87,87] 87 #[v,I (Z ⟨w.heap.size+1,0,J⟩) 1 1]).run V ((w.alloc (K #[Q U z] 3)).alloc (K #[I a l c] 22)).drew=.ok v1 w1∧Below B w w1 ∧
   ∃ t1 w2,(Builtin.append_ #[86,86] 86 #[t,I (Z ⟨w.heap.size,0,J⟩) 1 1]).run V w1=.ok t1 w2∧Qz5 B w w2 t1 v1 (n+1) (ts++[z]) (cs++[I a l c])):=by
 have hb0:Below B w ((w.alloc (K #[Q U z] 3)).alloc (K #[I a l c] 22)).drew:=(((Below.refl _ _).alloc hB _).alloc (by simp; omega) _).drew
 have e1:=World.cell?_alloc_mark (w.alloc (K #[Q U z] 3)) #[I a l c] 22 (0,0) 0
 simp only [World.size_alloc] at e1
 refine Qx5 ((ht.alloc _).alloc _).drew ((hv.alloc _).alloc _).drew (Nat.le_trans hB hb0.size) hb0 hl z a l c ?_ ?_ (fun e=>by have:=(Qb1 ht _ e).2; omega) (fun e=>by have:=(Qb1 hv _ e).2; omega)
 ·rw [World.cell?_drew,World.cell?_alloc_lt _ _ _ (by simp),World.cell?_alloc_mark]; rfl
 ·rw [World.cell?_drew,e1]; rfl
theorem Qtm (ht:w.ownsRow B 3 1 t n (Qbi ts))(hv:w.ownsRow B 22 1 v n cs)(hB:B≤w.heap.size)(hl:n≤10000)(z:Int)(a:Option Addr)(l c:Nat) :
  (∃ t1 w1,(Builtin.append_ #[86,86] 86 #[t,I (Z ⟨w.heap.size+1,0,J⟩) 1 1]).run V ((w.alloc (K #[I a l c] 22)).alloc (K #[Q U z] 3)).drew=.ok t1 w1∧Below B w w1 ∧
   ∃ v1 w2,(Builtin.append_ #[87,87] 87 #[v,I (Z ⟨w.heap.size,0,J⟩) 1 1]).run V w1=.ok v1 w2∧Qz5 B w w2 t1 v1 (n+1) (ts++[z]) (cs++[I a l c])) ∧
  (∃ v1 w1,(Builtin.append_ #[87,87] 87 #[v,I (Z ⟨w.heap.size,0,J⟩) 1 1]).run V ((w.alloc (K #[I a l c] 22)).alloc (K #[Q U z] 3)).drew=.ok v1 w1∧Below B w w1 ∧
   ∃ t1 w2,(Builtin.append_ #[86,86] 86 #[t,I (Z ⟨w.heap.size+1,0,J⟩) 1 1]).run V w1=.ok t1 w2∧Qz5 B w w2 t1 v1 (n+1) (ts++[z]) (cs++[I a l c])):=by
 have hb0:Below B w ((w.alloc (K #[I a l c] 22)).alloc (K #[Q U z] 3)).drew:=(((Below.refl _ _).alloc hB _).alloc (by simp; omega) _).drew
 have e1:=World.cell?_alloc_mark (w.alloc (K #[I a l c] 22)) #[Q U z] 3 (0,0) 0
 simp only [World.size_alloc] at e1
 refine Qx5 ((ht.alloc _).alloc _).drew ((hv.alloc _).alloc _).drew (Nat.le_trans hB hb0.size) hb0 hl z a l c ?_ ?_ (fun e=>by have:=(Qb1 ht _ e).2; omega) (fun e=>by have:=(Qb1 hv _ e).2; omega)
 ·rw [World.cell?_drew,e1]; rfl
 ·rw [World.cell?_drew,World.cell?_alloc_lt _ _ _ (by simp),World.cell?_alloc_mark]; rfl
end
