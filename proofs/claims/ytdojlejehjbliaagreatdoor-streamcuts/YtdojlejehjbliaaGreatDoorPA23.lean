import Derived.Test.YtdojlejehjbliaaGreatDoorPA22
namespace Go.Proofs.YtdojlejehjbliaaGreatDoor
set_option maxHeartbeats 4000000
set_option linter.unnecessarySimpa false
open _root_.Go.Value renaming slice → I,int → Z
open _root_.Option renaming none → J,some → V
open _root_.Go.IntKind renaming i64 → Q
open _root_.Go.Proofs.Tryz renaming prog → Y
open _root_.Go.Ending renaming returned → U
open _root_.Go.Obj renaming cells → K
open _root_.Go.World renaming block_lt_of_cell? → E
open Go.RowKit
set_option maxRecDepth 100000
section
attribute [local go_sem ↓] Go.wp_at_zero Go.wp_at_succ Qgj
theorem Qz3 (fl ty:Nat)(a1:Option Addr)(c1:Nat)(a2:Option Addr)(n2 c2:Nat)(d:List Nat)(X B:Nat)(a:At)(w:World)(hS:Qfa w)(hf:fl < 256)(hty:ty=6∨ty=7)(hv:Qc2 fl ty=true)(hs:Qfj ty d.length=true)(hd:d.length≤255)(hdr:BRd w a1 d)(hbox:Box w X B a)(hB:B≤w.heap.size)(hl:a.raws.length≤10000) :
    Calls Y 68 #[Qcb (fl:Int) (ty:Int) a1 d.length c1 a2 n2 c2,.pointer (V ⟨X,0,J⟩)] w fun e w'=>Qcv X B w w' (.inr { a with raws:=a.raws++[(((Qed ty:Nat):Int),(ty:Int),d)] }) e:=by
  have hX:=hbox.pos
  have hXB:=hbox.lt
  have KC:Hid (∀ w1,Below w.heap.size w w1→Calls Y 50 #[I a1 d.length c1] w1 fun e w'=>∃ a9 c9,e=U (I a9 d.length c9)∧w'.ownsRow w1.heap.size 5 1 (I a9 d.length c9) d.length (Qal d)∧Below w1.heap.size w1 w'):=fun w1 hb=>Qhg a1 c1 d w1 (by omega) (hdr.below hb)
  have KT:Hid (∀ w1,Below w.heap.size w w1→∀ a9 n9 c9,Calls Y 101 #[Z Q (ty:Int),I a9 n9 c9] w1 fun e w'=>e=U (.agg #[Z Q ((Qed ty:Nat):Int),Z Q (ty:Int),I a9 n9 c9])∧Below w1.heap.size w1 w'):=fun w1 hb a9 n9 c9=>Qwl ty a9 n9 c9 w1 (hS.below hb) (by omega) (by omega)
  have HRZ:Hid (∀ w',Box w' X B { a with raws:=a.raws++[(((Qed ty:Nat):Int),(ty:Int),d)] }→Qae (Qa2 X B) w w'→Qcv X B w w' (.inr { a with raws:=a.raws++[(((Qed ty:Nat):Int),(ty:Int),d)] }) (U (.tuple #[]))):=fun w' h8 h9=>⟨rfl,h8,h9⟩
  have HX:=Qaa hbox
  have d1:decide ((ty:Int) < 1)=false:=decide_eq_false (by omega)
  have d8:decide ((8:Int) < (ty:Int))=false:=decide_eq_false (by omega)
  have e1:((ty:Int) == 1)=false:=by simp; omega
  have e2:((ty:Int) == 2)=false:=by simp; omega
  have e3:((ty:Int) == 3)=false:=by simp; omega
  have e4:((ty:Int) == 4)=false:=by simp; omega
  have e5:((ty:Int) == 5)=false:=by simp; omega
  have e8:((ty:Int) == 8)=false:=by simp; omega
  clear hbox hdr
  unfold Qcb
  generalize hdl:d.length=n1 at *
  have HBA:Hid (Below w.heap.size w (w.alloc (K #[Z Q (fl:Int),Z Q (ty:Int),I a1 n1 c1,I a2 n2 c2] 122))):=(Below.refl _ _).alloc (Nat.le_refl _) _
  have KH:Hid (∀ (w1:World) (_:Hid (Below w.heap.size w w1)) (x:Qap w1),Calls Y 95 #[.agg #[Z Q (fl:Int),Z Q (ty:Int),I a1 n1 c1,I a2 n2 c2]] x.w fun e w'=>e=U (.bool true)∧∃ y:Qap w1,w'=y.w):=fun w1 hb x=>Qnt fl ty a1 n1 c1 a2 n2 c2 w hS hf (by omega) (by omega) true hv w1 hb x
  have KF:Hid (∀ (w1:World) (_:Hid (Below w.heap.size w w1)) (x:Qap w1),Calls Y 96 #[Z Q (ty:Int),Z Q (n1:Int)] x.w fun e w'=>e=U (.bool true)∧∃ y:Qap w1,w'=y.w):=fun w1 hb x=>Qnh ty n1 w hS (by omega) (by omega) (by omega) true hs w1 hb x
  have x0:∀ x:Qap (w.alloc (K #[Z Q (fl:Int),Z Q (ty:Int),I a1 n1 c1,I a2 n2 c2] 122)),x.w.cell? ⟨w.heap.size,0,J⟩=V (Z Q (fl:Int)):=fun x=>x.cell (by simp [go_sem])
  have x1:∀ x:Qap (w.alloc (K #[Z Q (fl:Int),Z Q (ty:Int),I a1 n1 c1,I a2 n2 c2] 122)),x.w.cell? ⟨w.heap.size,1,J⟩=V (Z Q (ty:Int)):=fun x=>x.cell (by simp [go_sem])
  have x2:∀ x:Qap (w.alloc (K #[Z Q (fl:Int),Z Q (ty:Int),I a1 n1 c1,I a2 n2 c2] 122)),x.w.cell? ⟨w.heap.size,2,J⟩=V (I a1 n1 c1):=fun x=>x.cell (by simp [go_sem])
  have x3:∀ x:Qap (w.alloc (K #[Z Q (fl:Int),Z Q (ty:Int),I a1 n1 c1,I a2 n2 c2] 122)),x.w.cell? ⟨w.heap.size,3,J⟩=V (I a2 n2 c2):=fun x=>x.cell (by simp [go_sem])
  have hne:=Qbh (w.alloc (K #[Z Q (fl:Int),Z Q (ty:Int),I a1 n1 c1,I a2 n2 c2] 122))
  clear hS hv hs
  generalize Qed ty=fg at *
  go_enter Tryz.func68,Tryz.ntmps68
  go_wp2_with fail
  refine Qa5 (by kernel_rfl) (by kernel_rfl) ?_
  repeat (go_big_quiet_step (first | (go_at_call 95; with_reducible exact KH.out _ HBA _) | (go_at_call 94; with_reducible exact Qfg _ _ _ _ _ _ _ _ _ _ _)))
  refine wpQuiet_nil ?_
  rintro _ ⟨xq,rfl⟩
  have HB3:Hid (Below w.heap.size w xq.w):=Qb6 HBA.out xq
  have p0:=x0 xq
  have p1:=x1 xq
  have p2:=x2 xq
  have p3:=x3 xq
  clear x0 x1 x2 x3 hne
  generalize xq.w=w3 at *
  have y0:∀ x:Qap w3,x.w.cell? ⟨w.heap.size,0,J⟩=V (Z Q (fl:Int)):=fun x=>x.cell p0
  have y1:∀ x:Qap w3,x.w.cell? ⟨w.heap.size,1,J⟩=V (Z Q (ty:Int)):=fun x=>x.cell p1
  have y2:∀ x:Qap w3,x.w.cell? ⟨w.heap.size,2,J⟩=V (I a1 n1 c1):=fun x=>x.cell p2
  have y3:∀ x:Qap w3,x.w.cell? ⟨w.heap.size,3,J⟩=V (I a2 n2 c2):=fun x=>x.cell p3
  have hne:=Qbh w3
  go_wp2_with fail
  refine Qa5 (by kernel_rfl) (by kernel_rfl) ?_
  repeat (go_big_quiet_step (first | (go_at_call 96; with_reducible exact KF.out _ HB3 _) | (go_at_call 94; with_reducible exact Qfg _ _ _ _ _ _ _ _ _ _ _)))
  refine wpQuiet_nil ?_
  rintro _ ⟨xr,rfl⟩
  have HB4:Hid (Below w.heap.size w xr.w):=Qb6 HB3.out xr
  have q0:=y0 xr
  have q1:=y1 xr
  have q2:=y2 xr
  have q3:=y3 xr
  clear y0 y1 y2 y3 hne p0 p1 p2 p3
  generalize xr.w=w4 at *
  clear KH KF HBA HB3
  have hz4:w.heap.size < w4.heap.size:=by have:=E w4 _ q0; simpa using this
  have HX4:=Qaa (HX.out.later HB4.out)
  obtain ⟨p6,k6,r6,_⟩:=HX4.out.c6
  have hX4:X < w4.heap.size:=by omega
  generalize hrl:a.raws.length=rl at *
  have HRL:=Qaa hrl
  have HDL:=Qaa hdl
  clear HX hrl hdl
  go_wp2_with fail
  go_region_with (first
    | (go_at_call 50; refine (KC.out _ (HB4.out.drew)).mono ?_; rintro e w9 ⟨a9,c9,rfl,ho9,hb9⟩
       have hbd:Below w4.heap.size w4 w9:=((Below.refl _ _).drew).trans hb9
       have HX9:=Qaa (HX4.out.later hbd)
       have HB9:=Qaa (HB4.out.trans (hbd.mono HB4.out.size))
       have HO9:=Qaa (Qan ho9 (show w.heap.size≤w4.drew.heap.size from HB4.out.size))
       have hX9:X < w9.heap.size:=Nat.lt_of_lt_of_le hX4 hbd.size
       have hz9:w.heap.size < w9.heap.size:=Nat.lt_of_lt_of_le hz4 hbd.size
       have r69:w9.cell? ⟨X,6,J⟩=V (I p6 rl k6):=(by rw [hbd.cell (p:=⟨X,6,J⟩) hX4]; exact r6)
       have q19:w9.cell? ⟨w.heap.size,1,J⟩=V (Z Q (ty:Int)):=(by rw [hbd.cell (p:=⟨w.heap.size,1,J⟩) hz4]; exact q1)
       clear hb9 ho9 hbd)
    | (go_at_call 101; refine (KT.out _ HB9.out _ _ _).mono ?_; rintro e w8 ⟨rfl,hb8⟩
       have HX8:=Qaa (HX9.out.later hb8)
       have HB8:=Qaa (HB9.out.trans (hb8.mono HB9.out.size))
       have hX8:X < w8.heap.size:=Nat.lt_of_lt_of_le hX9 hb8.size
       have r68:w8.cell? ⟨X,6,J⟩=V (I p6 rl k6):=(by rw [hb8.cell (p:=⟨X,6,J⟩) hX9]; exact r69)
       obtain ⟨p',c',w3,hr3,hb3,hx3⟩:=HX8.out.snoc (f:=(fg:Int)) (t:=(ty:Int)) (ds:=d) (u:=I a9 n1 c9) (Nat.le_trans hB HB8.out.size) (by rw [HRL.out]; omega) (by rw [HRL.out]; exact r68) (by rw [HDL.out]; exact Qan (Qaq HO9.out hb8) hB) w8.heap.size rfl
       rw [HRL.out] at hr3 hx3
       have t6:w3.cell? ⟨X,6,J⟩=V (I p6 rl k6):=(by rw [hb3.cell (p:=⟨X,6,J⟩) hXB]; exact r68)
       have z6:w3.frozen? ⟨X,6,J⟩=false:=(by rw [hb3.frozen (p:=⟨X,6,J⟩) hXB]; exact HX8.out.fz 6)
       have HR3:=Qaa hr3
       have HX3:=Qaa hx3
       have HK3:=Qaa (Qgd (Qat (X:=X) (B:=B) HB8.out) hb3)
       clear hr3 hx3 hb3 hb8)
    | (refine Qb0 _ _ (I p6 rl k6) (I (V ⟨w8.heap.size,0,J⟩) 1 1) (I p' (rl+1) c') (w':=w3) (by rfl) (by rfl) (by exact HR3.out) ?_))
  all_goals go_wp2
  all_goals go_end0
  all_goals exact HRZ.out _ HX3.out (HK3.out.setCell X 6 _ (.inl (.inl rfl)))
end
theorem Jas (fl b o n:Nat)(c1:Nat)(a2:Option Addr)(c2:Nat)(all:List Nat)(f:Nat→Nat)(X B:Nat)(a:At)(w:World)(hS:Qfa w)(hf:fl < 256)(hv:Qc2 fl 8=true)(hn0:0 < n)(hn:n≤2500)(hfb:∀ i,i < 4 * n→f i < 256)(hc:∀ i,i < 4 * n→w.cell? ⟨b,o+i,J⟩=V (Z .u8 (f i:Int)))(hl:all.length≤100000)(h:BRd w a2 all)(hbox:Box w X B a)(hB:B≤w.heap.size)(hX2:∀ ad,a2=V ad→0 < all.length→ad.block < X) :
  Calls Y 68 #[Qcb (fl:Int) 8 (V ⟨b,o,J⟩) (4 * n) c1 a2 all.length c2,.pointer (V ⟨X,0,J⟩)] w fun e w'=>Qcv X B w w' (if 32 < n then .inl (3,9,all) else .inr { a with comms:=Qi6 f n }) e:=by
 have hs:Qfj 8 (4 * n)=true:=decide_eq_true ⟨by show 4≤4 * n; omega,by show 4 * n≤65535; omega,by show 4 * n % 4=0; omega⟩
 have hX:=hbox.pos
 have hbl:=E w _ (hc 0 (by omega))
 simp only at hbl
 have KN:Hid (∀ (w1:World),Below w.heap.size w w1→Calls Y 99 #[I (V ⟨b,o,J⟩) (4 * n) c1] w1 fun e w'=>e=U (I (V ⟨w1.heap.size,0,J⟩) n n)∧w'.ownsRow w1.heap.size 24 1 (I (V ⟨w1.heap.size,0,J⟩) n n) n (Qb8 (Qi6 f n))∧Below w1.heap.size w1 w'):=fun w1 hb=>Qis b o n c1 f w1 (by omega) hfb (fun i hi=>by rw [hb.cell (p:=⟨b,o+i,J⟩) hbl]; exact hc i hi)
 have HLN:=Qaa (Qin f n)
 have HR:=Qaa h
 have HX:=Qaa hbox
 clear hbox hc hfb h
 unfold Qcb
 generalize Qi6 f n=cs at *
 generalize hr:(if 32 < n then (Sum.inl (3,9,all):Res) else .inr { a with comms:=cs })=r
 have HRN:Hid (32 < n→∀ e w',Qd9 X B w w' 9 all e→Qcv X B w w' r e):=fun h2 e w' h9=>by rw [← hr,if_pos h2]; exact h9
 have HRY:Hid (¬ 32 < n→∀ w',Box w' X B { a with comms:=cs }→Qae (Qa2 X B) w w'→Qcv X B w w' r (U (.tuple #[]))):=fun h2 w' h8 h9=>by rw [← hr,if_neg h2]; exact ⟨rfl,h8,h9⟩
 clear hr
 generalize hn2:all.length=n2 at *
 generalize ha1:V (⟨b,o,J⟩:Addr)=a1 at *
 generalize hm:4 * n=n1 at *
 have HBA:Hid (Below w.heap.size w (w.alloc (K #[Z Q (fl:Int),Z Q 8,I a1 n1 c1,I a2 n2 c2] 122))):=(Below.refl _ _).alloc (Nat.le_refl _) _
 have KH:Hid (∀ (w1:World) (_:Hid (Below w.heap.size w w1)) (x:Qap w1),Calls Y 95 #[.agg #[Z Q (fl:Int),Z Q 8,I a1 n1 c1,I a2 n2 c2]] x.w fun e w'=>e=U (.bool true)∧∃ y:Qap w1,w'=y.w):=fun w1 hb x=>Qnt fl 8 a1 n1 c1 a2 n2 c2 w hS hf (by omega) (by omega) true hv w1 hb x
 have KF:Hid (∀ (w1:World) (_:Hid (Below w.heap.size w w1)) (x:Qap w1),Calls Y 96 #[Z Q 8,Z Q (n1:Int)] x.w fun e w'=>e=U (.bool true)∧∃ y:Qap w1,w'=y.w):=fun w1 hb x=>Qnh 8 n1 w hS (by omega) (by omega) (by omega) true hs w1 hb x
 have x0:∀ x:Qap (w.alloc (K #[Z Q (fl:Int),Z Q 8,I a1 n1 c1,I a2 n2 c2] 122)),x.w.cell? ⟨w.heap.size,0,J⟩=V (Z Q (fl:Int)):=fun x=>x.cell (by simp [go_sem])
 have x1:∀ x:Qap (w.alloc (K #[Z Q (fl:Int),Z Q 8,I a1 n1 c1,I a2 n2 c2] 122)),x.w.cell? ⟨w.heap.size,1,J⟩=V (Z Q 8):=fun x=>x.cell (by simp [go_sem])
 have x2:∀ x:Qap (w.alloc (K #[Z Q (fl:Int),Z Q 8,I a1 n1 c1,I a2 n2 c2] 122)),x.w.cell? ⟨w.heap.size,2,J⟩=V (I a1 n1 c1):=fun x=>x.cell (by simp [go_sem])
 have x3:∀ x:Qap (w.alloc (K #[Z Q (fl:Int),Z Q 8,I a1 n1 c1,I a2 n2 c2] 122)),x.w.cell? ⟨w.heap.size,3,J⟩=V (I a2 n2 c2):=fun x=>x.cell (by simp [go_sem])
 have hne:=Qbh (w.alloc (K #[Z Q (fl:Int),Z Q 8,I a1 n1 c1,I a2 n2 c2] 122))
 clear hS hv hs
 subst ha1
 clear hm
 go_enter Tryz.func68,Tryz.ntmps68
 go_wp2_with fail
 refine Qa5 (by kernel_rfl) (by kernel_rfl) ?_
 repeat (go_big_quiet_step (first | (go_at_call 95; with_reducible exact KH.out _ HBA _) | (go_at_call 94; with_reducible exact Qfg _ _ _ _ _ _ _ _ _ _ _)))
 refine wpQuiet_nil ?_
 rintro _ ⟨xq,rfl⟩
 have HB3:Hid (Below w.heap.size w xq.w):=Qb6 HBA.out xq
 have p0:=x0 xq
 have p1:=x1 xq
 have p2:=x2 xq
 have p3:=x3 xq
 clear x0 x1 x2 x3 hne
 generalize xq.w=w3 at *
 have y0:∀ x:Qap w3,x.w.cell? ⟨w.heap.size,0,J⟩=V (Z Q (fl:Int)):=fun x=>x.cell p0
 have y1:∀ x:Qap w3,x.w.cell? ⟨w.heap.size,1,J⟩=V (Z Q 8):=fun x=>x.cell p1
 have y2:∀ x:Qap w3,x.w.cell? ⟨w.heap.size,2,J⟩=V (I (V ⟨b,o,J⟩) n1 c1):=fun x=>x.cell p2
 have y3:∀ x:Qap w3,x.w.cell? ⟨w.heap.size,3,J⟩=V (I a2 n2 c2):=fun x=>x.cell p3
 have hne:=Qbh w3
 go_wp2_with fail
 refine Qa5 (by kernel_rfl) (by kernel_rfl) ?_
 repeat (go_big_quiet_step (first | (go_at_call 96; with_reducible exact KF.out _ HB3 _) | (go_at_call 94; with_reducible exact Qfg _ _ _ _ _ _ _ _ _ _ _)))
 refine wpQuiet_nil ?_
 rintro _ ⟨xr,rfl⟩
 have HB4:Hid (Below w.heap.size w xr.w):=Qb6 HB3.out xr
 have q0:=y0 xr
 have q1:=y1 xr
 have q2:=y2 xr
 have q3:=y3 xr
 clear y0 y1 y2 y3 hne p0 p1 p2 p3
 generalize xr.w=w4 at *
 clear KH KF HBA HB3
 have hz4:w.heap.size < w4.heap.size:=by have:=E w4 _ q0; simpa using this
 go_wp2_with fail
 refine (KN.out _ HB4.out).mono ?_
 rintro e w5 ⟨rfl,ho5,hb5⟩
 have HX5:=Qaa (HX.out.later (HB4.out.trans (hb5.mono HB4.out.size)))
 obtain ⟨p5,k5,r5,_⟩:=HX5.out.c5
 have f5:=HX5.out.fz 5
 have HX6:Hid (Box (w5.setCell ⟨X,5,J⟩ (I (V ⟨w4.heap.size,0,J⟩) n n)) X B { a with comms:=cs }):=HX5.out.set 5 _ rfl rfl rfl rfl rfl ⟨_,_,by rw [HLN.out],by rw [HLN.out]; exact Qan ho5 (Nat.le_trans hB HB4.out.size)⟩ rfl
 have HK6:Hid (Qae (Qa2 X B) w (w5.setCell ⟨X,5,J⟩ (I (V ⟨w4.heap.size,0,J⟩) n n))):=(Qat (HB4.out.trans (hb5.mono HB4.out.size))).setCell X 5 _ (.inl (.inl rfl))
 rw [← hb5.cell (p:=⟨w.heap.size,0,J⟩) hz4] at q0
 rw [← hb5.cell (p:=⟨w.heap.size,1,J⟩) hz4] at q1
 rw [← hb5.cell (p:=⟨w.heap.size,2,J⟩) hz4] at q2
 rw [← hb5.cell (p:=⟨w.heap.size,3,J⟩) hz4] at q3
 have e5:(w5.setCell ⟨X,5,J⟩ (I (V ⟨w4.heap.size,0,J⟩) n n)).cell? ⟨X,5,J⟩=V (I (V ⟨w4.heap.size,0,J⟩) n n):=World.cell?_setCell_same _ _ _ r5
 have HE5:=Qaa e5
 clear hb5 ho5 e5
 go_wp2_with fail
 have e0:∀ x:Qap (w5.setCell ⟨X,5,J⟩ (I (V ⟨w4.heap.size,0,J⟩) n n)),x.w.cell? ⟨X,5,J⟩=V (I (V ⟨w4.heap.size,0,J⟩) n n):=fun x=>x.cell HE5.out
 have hne0:w.heap.size≠X:=by omega
 have y0:∀ x:Qap (w5.setCell ⟨X,5,J⟩ (I (V ⟨w4.heap.size,0,J⟩) n n)),x.w.cell? ⟨w.heap.size,0,J⟩=V (Z Q (fl:Int)):=fun x=>x.cell (by rw [World.cell?_setCell_other _ _ _ _ (by intro e9; injection e9 with e2 _ _; exact hne0 e2.symm)]; exact q0)
 have y1:∀ x:Qap (w5.setCell ⟨X,5,J⟩ (I (V ⟨w4.heap.size,0,J⟩) n n)),x.w.cell? ⟨w.heap.size,1,J⟩=V (Z Q 8):=fun x=>x.cell (by rw [World.cell?_setCell_other _ _ _ _ (by intro e9; injection e9 with e2 _ _; exact hne0 e2.symm)]; exact q1)
 have y2:∀ x:Qap (w5.setCell ⟨X,5,J⟩ (I (V ⟨w4.heap.size,0,J⟩) n n)),x.w.cell? ⟨w.heap.size,2,J⟩=V (I (V ⟨b,o,J⟩) n1 c1):=fun x=>x.cell (by rw [World.cell?_setCell_other _ _ _ _ (by intro e9; injection e9 with e2 _ _; exact hne0 e2.symm)]; exact q2)
 have y3:∀ x:Qap (w5.setCell ⟨X,5,J⟩ (I (V ⟨w4.heap.size,0,J⟩) n n)),x.w.cell? ⟨w.heap.size,3,J⟩=V (I a2 n2 c2):=fun x=>x.cell (by rw [World.cell?_setCell_other _ _ _ _ (by intro e9; injection e9 with e2 _ _; exact hne0 e2.symm)]; exact q3)
 have hne:=Qbh (w5.setCell ⟨X,5,J⟩ (I (V ⟨w4.heap.size,0,J⟩) n n))
 by_cases h2:32 < n
 ·have HRZ:=Qaa (HRN.out h2)
  have d2:decide ((n:Int)≤32)=false:=decide_eq_false (by omega)
  have KR:Hid (∀ x:Qap (w5.setCell ⟨X,5,J⟩ (I (V ⟨w4.heap.size,0,J⟩) n n)),Calls Y 94 #[.agg #[Z Q (fl:Int),Z Q 8,I (V ⟨b,o,J⟩) n1 c1,I a2 n2 c2],.bool false,Z Q 9] x.w fun e w'=>Qd9 X B w w' 9 all e):=fun x=>Qh7 fl 8 9 (V ⟨b,o,J⟩) n1 c1 a2 n2 c2 all X B w _ x hn2 hl HR.out HK6.out HX6.out hX2
  unfold Qd9 at KR HRZ
  unfold Qdp at KR HRZ
  rw [hn2] at KR HRZ
  clear h2
  refine Qe3 (by kernel_rfl) (by kernel_rfl) (fun _ _ d _ _ h=>by cases d <;> exact h) rfl ?_
  simp only [List.dropLast]
  repeat (go_big_quiet_step (fail))
  refine wpQuiet_nil ?_
  refine ⟨rfl,fun x=>?_⟩
  go_simp
  refine (KR.out x).mono ?_
  rintro e w7 ⟨a9,c9,rfl,ho,hb7⟩
  exact ⟨rfl,HRZ.out _ _ ⟨a9,c9,rfl,ho,hb7⟩⟩
 ·have HRZ:=Qaa (HRY.out h2)
  have d2:(n:Int)≤32:=by omega
  clear h2
  refine Qa5 (by kernel_rfl) (by kernel_rfl) ?_
  repeat (go_big_quiet_step (first | (go_at_call 94; with_reducible exact Qfg _ _ _ _ _ _ _ _ _ _ _)))
  refine wpQuiet_nil ?_
  rintro _ ⟨xs,rfl⟩
  have HX7:=Qaa (HX6.out.later (by simpa using xs.h))
  have HK7:=Qaa (Qd5 HK6.out xs)
  clear e0 y0 y1 y2 y3 hne HX6 HK6 HE5
  generalize xs.w=w7 at *
  go_wp2
  go_end0
  exact HRZ.out _ HX7.out HK7.out
def Qix (a:At)(fl ty:Nat)(d all:List Nat):Res :=
 if 1≤ty∧ty≤8 then
  if Qc2 fl ty=false then .inl (3,4,all)
  else if Qfj ty d.length=false then .inl (3,5,all)
  else if ty=1 then if 2 < d.getD 0 0 then .inl (3,6,all) else .inr { a with origin:=((d.getD 0 0:Nat):Int) }
  else if ty=2 then match Qa3 (fun q=>d.getD q 0) d.length 0 [] with
   | none=>.inl (3,11,[])
   | some p=>.inr { a with path:=p }
  else if ty=3 then if Qk0 (Qf8 d) then .inr { a with next:=Qf8 d } else .inl (3,8,all)
  else if ty=4 then .inr { a with med:=((Qf8 d:Nat):Int) }
  else if ty=5 then .inr { a with pref:=((Qf8 d:Nat):Int) }
  else if ty=8 then if 32 < d.length / 4 then .inl (3,9,all) else .inr { a with comms:=Qcl d }
  else .inr { a with raws:=a.raws++[(((Qed ty:Nat):Int),(ty:Int),d)] }
 else if fl < 128 then .inl (3,2,all)
 else if fl / 64 % 2=0 then .inr a
 else if 255 < d.length then .inl (3,9,all)
 else if 8 < ty then .inr { a with raws:=a.raws++[(224,(ty:Int),d)] }
 else .inr a
theorem Qu6 (ty:Nat)(d:List Nat)(h1:1≤ty)(h8:ty≤8)(hd:d.length≤65535):Qfj ty d.length = !Qbz ty d:=by
 unfold Qfj Qbz Qhp Qi9 Qkt
 have hk:ty=1∨ty=2∨ty=3∨ty=4∨ty=5∨ty=6∨ty=7∨ty=8:=by omega
 generalize d.length=n at *
 rw [Bool.eq_iff_iff]
 simp only [Bool.not_eq_true',decide_eq_false_iff_not,decide_eq_true_eq]
 rcases hk with rfl | rfl | rfl | rfl | rfl | rfl | rfl | rfl <;> simp <;> omega
theorem Qgm {w:World}{a:Option Addr}{d:List Nat}(h:BRd w a d)(q:Nat):d.getD q 0 < 256:=by
 by_cases hq:q < d.length
 ·rw [List.getD_eq_getElem?_getD,List.getElem?_eq_getElem hq]
  exact h.2 _ (List.getElem_mem hq)
 ·rw [List.getD_eq_getElem?_getD,List.getElem?_eq_none (by omega)]
  decide
theorem Qxt (fl ty:Nat)(a1:Option Addr)(c1:Nat)(a2:Option Addr)(c2:Nat)(d all:List Nat)(X B:Nat)(a:At)(w:World)(hS:Qfa w)(hf:fl < 256)(hd:d.length≤10000)(hdc:d.length≤c1)(hdr:BRd w a1 d)(hl:all.length≤100000)(h:BRd w a2 all)(hX2:∀ ad,a2=V ad→0 < all.length→ad.block < X)(hbox:Box w X B a)(hB:B≤w.heap.size)(hr:a.raws.length≤10000) :
  Calls Y 68 #[Qcb (fl:Int) (ty:Int) a1 d.length c1 a2 all.length c2,.pointer (V ⟨X,0,J⟩)] w fun e w'=>Qcv X B w w' (Qix a fl ty d all) e:=by
 unfold Qix
 by_cases hk:1≤ty∧ty≤8
 ·rw [if_pos hk]
  by_cases hv:Qc2 fl ty=false
  ·rw [if_pos hv]
   exact (Qsk fl ty a1 d.length c1 a2 c2 all X w hS hf hk.1 hk.2 hv hl h).mono fun _ _ h9=>h9.box hbox
  ·rw [if_neg hv]
   have hv2:Qc2 fl ty=true:=by cases h9:Qc2 fl ty with | true=>rfl | false=>exact absurd h9 hv
   by_cases hs:Qfj ty d.length=false
   ·rw [if_pos hs]
    exact (Quc fl ty a1 d.length c1 a2 c2 all X w hS hf hk.1 hk.2 hv2 hs (by omega) hl h).mono fun _ _ h9=>h9.box hbox
   ·rw [if_neg hs]
    have hs2:Qfj ty d.length=true:=by cases h9:Qfj ty d.length with | true=>rfl | false=>exact absurd h9 hs
    have hfit:=of_decide_eq_true hs2
    by_cases h1:ty=1
    ·rw [if_pos h1]
     subst h1
     have hn:d.length=1:=by unfold Qhp Qi9 at hfit; simp at hfit; omega
     obtain ⟨b,o,rfl,hc,hlt⟩:=hdr.cells (by omega)
     have:=Jan fl (d.getD 0 0) b o c1 a2 c2 all X B a w hS hf hv2 (hlt 0) (by have:=hc 0 (by omega); simpa using this) hl h hbox hX2
     rw [hn]
     exact this
    ·rw [if_neg h1]
     by_cases h2:ty=2
     ·rw [if_pos h2]
      subst h2
      exact Jbm fl a1 c1 a2 all.length c2 d X B a w hS hf hv2 hd hdc hdr hbox hB
     ·rw [if_neg h2]
      have four:(ty=3∨ty=4∨ty=5)→d.length=4:=fun h9=>by
       unfold Qhp Qi9 at hfit
       rcases h9 with rfl | rfl | rfl <;> simp at hfit <;> omega
      by_cases h3:ty=3
      ·rw [if_pos h3]
       have hn:=four (.inl h3)
       subst h3
       obtain ⟨b,o,rfl,hc,hlt⟩:=hdr.cells (by omega)
       have:=Jah fl b o c1 a2 c2 all (fun q=>d.getD q 0) X B a w hS hf hv2 (fun i _=>hlt i) (fun i hi=>hc i (by omega)) hl h hbox hX2
       rw [hn]
       exact this
      ·rw [if_neg h3]
       by_cases h4:ty=4
       ·rw [if_pos h4]
        have hn:=four (.inr (.inl h4))
        subst h4
        obtain ⟨b,o,rfl,hc,hlt⟩:=hdr.cells (by omega)
        have:=Ja5 fl b o c1 a2 all.length c2 (fun q=>d.getD q 0) X B a w hS hf hv2 (fun i _=>hlt i) (fun i hi=>hc i (by omega)) hbox
        rw [hn]
        exact this
       ·rw [if_neg h4]
        by_cases h5:ty=5
        ·rw [if_pos h5]
         have hn:=four (.inr (.inr h5))
         subst h5
         obtain ⟨b,o,rfl,hc,hlt⟩:=hdr.cells (by omega)
         have:=Jak fl b o c1 a2 all.length c2 (fun q=>d.getD q 0) X B a w hS hf hv2 (fun i _=>hlt i) (fun i hi=>hc i (by omega)) hbox
         rw [hn]
         exact this
        ·rw [if_neg h5]
         by_cases h8:ty=8
         ·rw [if_pos h8]
          subst h8
          have hn:0 < d.length∧d.length % 4=0:=by unfold Qhp Qi9 Qkt at hfit; simp at hfit; omega
          obtain ⟨b,o,rfl,hc,hlt⟩:=hdr.cells hn.1
          have e4:4 * (d.length / 4)=d.length:=by omega
          have:=Jas fl b o (d.length / 4) c1 a2 c2 all (fun q=>d.getD q 0) X B a w hS hf hv2 (by omega) (by omega) (fun i _=>hlt i) (fun i hi=>hc i (by omega)) hl h hbox hB hX2
          rw [e4] at this
          exact this
         ·rw [if_neg h8]
          exact Qz3 fl ty a1 c1 a2 all.length c2 d X B a w hS hf (by omega) hv2 hs2 (by
           have h67:ty=6∨ty=7:=by omega
           have hm:d.length≤Qi9 ty:=hfit.2.1
           have e6:Qi9 6=0:=rfl
           have e7:Qi9 7=8:=rfl
           rcases h67 with rfl | rfl <;> omega) hdr hbox hB hr
 ·rw [if_neg hk]
  have hty:ty=0∨8 < ty:=by omega
  by_cases h1:fl < 128
  ·rw [if_pos h1]
   exact (Qgz fl ty a1 d.length c1 a2 all.length c2 X w 2 all hty (fun w1 hb=>Qzp fl ty a1 d.length c1 a2 c2 all X w1 h1 hl (h.below hb))).mono fun _ _ h9=>h9.box hbox
  ·rw [if_neg h1]
   by_cases h2:fl / 64 % 2=0
   ·rw [if_pos h2]
    exact Qgh fl ty a1 d.length c1 a2 all.length c2 X w (fun w'=>Box w' X B a∧Qae (Qa2 X B) w w') hty (fun w1 hb=>(Qww fl ty a1 d.length c1 a2 all.length c2 X w1 (by omega) hf h2).mono fun _ w' h9=>⟨h9.1,(hbox.later hb).later h9.2,Qat (hb.trans (h9.2.mono hb.size))⟩)
   ·rw [if_neg h2]
    by_cases h3:255 < d.length
    ·rw [if_pos h3]
     exact (Qgz fl ty a1 d.length c1 a2 all.length c2 X w 9 all hty (fun w1 hb=>Qy5 fl ty a1 d.length c1 a2 c2 all X w1 (by omega) hf h2 h3 hl (h.below hb))).mono fun _ _ h9=>h9.box hbox
    ·rw [if_neg h3]
     by_cases h4:8 < ty
     ·rw [if_pos h4]
      exact Qgh fl ty a1 d.length c1 a2 all.length c2 X w (fun w'=>Box w' X B { a with raws:=a.raws++[(224,(ty:Int),d)] }∧Qae (Qa2 X B) w w') hty (fun w1 hb=>(Qye fl ty a1 c1 a2 all.length c2 d X B a w1 (by omega) hf h2 (by omega) h4 (hdr.below hb) (hbox.later hb) (Nat.le_trans hB hb.size) hr).mono fun _ w' h9=>⟨h9.1,h9.2.1,(Qat hb).trans h9.2.2 (fun _ _ h9=>h9)⟩)
     ·rw [if_neg h4]
      have h0:ty=0:=by omega
      subst h0
      exact Qgh fl 0 a1 d.length c1 a2 all.length c2 X w (fun w'=>Box w' X B a∧Qae (Qa2 X B) w w') (.inl rfl) (fun w1 hb=>(Qvu fl a1 d.length c1 a2 all.length c2 X w1 (by omega) hf h2 (by omega)).mono fun _ w' h9=>⟨h9.1,(hbox.later hb).later h9.2,Qat (hb.trans (h9.2.mono hb.size))⟩)
structure Rel (a b:At) (seen:List Nat):Prop where
 eq:b={ a with raws:=b.raws }
 perm:b.raws.Perm a.raws
 up:b.raws.Pairwise fun x y=>x.2.1 < y.2.1
 inn:∀ r∈a.raws,∃ t:Nat,r.2.1=(t:Int)∧t∈seen
 comms:8 ∉ seen→a.comms=[]
 cnt:a.raws.length≤seen.length
theorem Rel.more {a b:At}{seen:List Nat}(h:Rel a b seen)(ty:Nat):∀ r∈a.raws,∃ t:Nat,r.2.1=(t:Int)∧t∈ty :: seen:=fun r hr=>by
 obtain ⟨t,e,ht⟩:=h.inn r hr
 exact ⟨t,e,List.mem_cons_of_mem _ ht⟩
theorem Rel.snoc {a b:At}{seen:List Nat}(h:Rel a b seen)(ty:Nat)(hty:ty ∉ seen)(f:Int)(d:List Nat):Rel { a with raws:=a.raws++[(f,(ty:Int),d)] } { b with raws:=Qf7 (f,(ty:Int),d) b.raws } (ty :: seen):=by
 refine ⟨by rw [h.eq],?_,?_,?_,fun h9=>h.comms (fun h8=>h9 (List.mem_cons_of_mem _ h8)),by simp only [List.length_append,List.length_cons,List.length_nil]; have:=h.cnt; omega⟩
 ·exact (Qhq _ _).trans (h.perm.append_right _)
 ·refine Qpd _ _ h.up (fun x hx e=>?_)
  obtain ⟨t,e2,ht⟩:=h.inn x (h.perm.mem_iff.1 hx)
  rw [e2] at e
  simp only at e
  have:t=ty:=by omega
  exact hty (this ▸ ht)
 ·intro r hr
  rcases List.mem_append.1 hr with hr | hr
  ·exact h.more ty r hr
  ·simp only [List.mem_cons,List.not_mem_nil,or_false] at hr
   subst hr
   exact ⟨ty,rfl,by simp⟩
theorem Rel.same {a b a' b':At}{seen:List Nat}(h:Rel a b seen)(ty:Nat)(e:b'={ a' with raws:=b'.raws })(er:a'.raws=a.raws)(er2:b'.raws=b.raws)(ec:8 ∉ ty :: seen→a'.comms=[]):Rel a' b' (ty :: seen) :=
 ⟨e,by rw [er,er2]; exact h.perm,by rw [er2]; exact h.up,by rw [er]; exact h.more ty,ec,by rw [er,List.length_cons]; have:=h.cnt; omega⟩
theorem Qvx {a b:At}{seen:List Nat}(h:Rel a b seen)(fl ty:Nat)(d all:List Nat)(hty:ty ∉ seen)(hd:d.length≤65535) :
  (∀ n,Qix a fl ty d all=.inl n→Qdz b fl ty d all=.inl n)∧∀ a',Qix a fl ty d all=.inr a'→∃ b',Qdz b fl ty d all=.inr b'∧Rel a' b' (ty :: seen):=by
 have hcm:8 ∉ ty :: seen→a.comms=[]:=fun h9=>h.comms (fun h8=>h9 (List.mem_cons_of_mem _ h8))
 have hb:=h.eq
 have hbc:b.comms=a.comms:=by rw [hb]
 unfold Qix Qdz
 by_cases hk:1≤ty∧ty≤8
 ·rw [if_pos hk,if_pos hk]
  unfold Qc8
  have ef:(fl / 64 * 64≠Qh6 ty∨fl / 32 % 2=1∧ty < 7)↔Qc2 fl ty=false:=by unfold Qc2; simp only [Bool.not_eq_false',decide_eq_true_eq]
  by_cases hv:Qc2 fl ty=false
  ·rw [if_pos hv,if_pos (ef.2 hv)]
   exact ⟨fun n e=>e,fun a' e=>by cases e⟩
  ·rw [if_neg hv,if_neg (fun h9=>hv (ef.1 h9))]
   have es:=Qu6 ty d hk.1 hk.2 hd
   by_cases hs:Qfj ty d.length=false
   ·rw [if_pos hs,if_pos (show Qbz ty d=true from by rw [hs] at es; simpa using es.symm)]
    exact ⟨fun n e=>e,fun a' e=>by cases e⟩
   ·rw [if_neg hs,if_neg (show ¬ Qbz ty d=true from fun h9=>by rw [h9] at es; exact hs es)]
    by_cases h1:ty=1
    ·rw [if_pos h1,if_pos h1]
     split
     ·exact ⟨fun n e=>e,fun a' e=>by cases e⟩
     ·refine ⟨fun n e=>(by cases e),fun a' e=>?_⟩
      cases e
      exact ⟨_,rfl,h.same ty (by rw [hb]) rfl rfl hcm⟩
    ·rw [if_neg h1,if_neg h1]
     by_cases h2:ty=2
     ·rw [if_pos h2,if_pos h2]
      cases Qa3 (fun q=>d.getD q 0) d.length 0 [] with
      | none=>exact ⟨fun n e=>e,fun a' e=>by cases e⟩
      | some p =>
       refine ⟨fun n e=>(by cases e),fun a' e=>?_⟩
       cases e
       exact ⟨_,rfl,h.same ty (by rw [hb]) rfl rfl hcm⟩
     ·rw [if_neg h2,if_neg h2]
      by_cases h3:ty=3
      ·rw [if_pos h3,if_pos h3]
       split
       ·refine ⟨fun n e=>(by cases e),fun a' e=>?_⟩
        cases e
        exact ⟨_,rfl,h.same ty (by rw [hb]) rfl rfl hcm⟩
       ·exact ⟨fun n e=>e,fun a' e=>by cases e⟩
      ·rw [if_neg h3,if_neg h3]
       by_cases h4:ty=4
       ·rw [if_pos h4,if_pos h4]
        refine ⟨fun n e=>(by cases e),fun a' e=>?_⟩
        cases e
        exact ⟨_,rfl,h.same ty (by rw [hb]) rfl rfl hcm⟩
       ·rw [if_neg h4,if_neg h4]
        by_cases h5:ty=5
        ·rw [if_pos h5,if_pos h5]
         refine ⟨fun n e=>(by cases e),fun a' e=>?_⟩
         cases e
         exact ⟨_,rfl,h.same ty (by rw [hb]) rfl rfl hcm⟩
        ·rw [if_neg h5,if_neg h5]
         by_cases h8:ty=8
         ·rw [if_pos h8,if_pos h8]
          subst h8
          have hc0:b.comms=[]:=by rw [hbc]; exact h.comms hty
          by_cases hl:128 < d.length
          ·rw [if_pos (show 32 < d.length / 4 by
            cases hq:Qfj 8 d.length with
            | false=>exact absurd hq hs
            | true=>have:=of_decide_eq_true hq; unfold Qkt at this; simp at this; omega),if_pos hl]
           exact ⟨fun n e=>e,fun a' e=>by cases e⟩
          ·rw [if_neg (by omega),if_neg hl]
           refine ⟨fun n e=>(by cases e),fun a' e=>?_⟩
           cases e
           exact ⟨_,rfl,h.same 8 (by rw [hc0,List.nil_append,hb]) rfl rfl (fun h9=>absurd (List.mem_cons_self) h9)⟩
         ·rw [if_neg h8,if_neg h8]
          refine ⟨fun n e=>(by cases e),fun a' e=>?_⟩
          cases e
          exact ⟨_,rfl,h.snoc ty hty _ d⟩
 ·rw [if_neg hk,if_neg hk]
  by_cases h1:fl < 128
  ·rw [if_pos h1,if_pos h1]; exact ⟨fun n e=>e,fun a' e=>by cases e⟩
  ·rw [if_neg h1,if_neg h1]
   by_cases h2:fl / 64 % 2=0
   ·rw [if_pos h2,if_pos h2]
    refine ⟨fun n e=>(by cases e),fun a' e=>?_⟩
    cases e
    exact ⟨_,rfl,h.same ty hb rfl rfl hcm⟩
   ·rw [if_neg h2,if_neg h2]
    by_cases h3:255 < d.length
    ·rw [if_pos h3,if_pos h3]; exact ⟨fun n e=>e,fun a' e=>by cases e⟩
    ·rw [if_neg h3,if_neg h3]
     by_cases h4:8 < ty
     ·rw [if_pos h4,if_pos h4]
      refine ⟨fun n e=>(by cases e),fun a' e=>?_⟩
      cases e
      exact ⟨_,rfl,h.snoc ty hty _ d⟩
     ·rw [if_neg h4,if_neg h4]
      refine ⟨fun n e=>(by cases e),fun a' e=>?_⟩
      cases e
      exact ⟨_,rfl,h.same ty hb rfl rfl hcm⟩
