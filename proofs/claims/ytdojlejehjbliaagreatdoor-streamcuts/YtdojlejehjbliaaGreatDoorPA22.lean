import Derived.Test.YtdojlejehjbliaaGreatDoorPA21
namespace Go.Proofs.YtdojlejehjbliaaGreatDoor
set_option maxHeartbeats 4000000
open _root_.Go.Value renaming slice → I,int → V,pointer → M
open _root_.Option renaming none → J,some → Y
open _root_.Go.IntKind renaming i64 → Z
open _root_.Go.Proofs.Tryz renaming prog → U
open _root_.Go.World renaming block_lt_of_cell? → E
open _root_.Go.Ending renaming returned → D
open _root_.Go.Obj renaming cells → R
open _root_.Nat renaming le_refl → T
open _root_.Go.RowKit.Below renaming refl → L
open Go.RowKit
set_option maxRecDepth 100000
theorem Ql8 (b o c:Nat)(f:Nat→Nat)(w:World)(hf:∀ i,i < 4→f i < 256)(hc:∀ i,i < 4→w.cell? ⟨b,o+i,J⟩=Y (V .u8 (f i:Int))) :
  Calls U 99 #[I (Y ⟨b,o,J⟩) 4 c] w fun e w'=>e=D (I (Y ⟨w.heap.size,0,J⟩) 1 1)∧w'.cell? ⟨w.heap.size,0,J⟩=Y (V .u32 ((num f:Nat):Int))∧Below w.heap.size w w':=by
 refine (Qis b o 1 c f w (by omega) (fun i hi=>hf i (by omega)) (fun i hi=>hc i (by omega))).mono ?_
 rintro e w' ⟨he,ho,hb⟩
 refine ⟨he,?_,hb⟩
 rw [ho.cellAt 0 (by omega)]
 simp [Qb8,Qi6]
theorem Ja5 (fl b o:Nat)(c1:Nat)(a2:Option Addr)(n2 c2:Nat)(f:Nat→Nat)(X B:Nat)(a:At)(w:World)(hS:Qfa w)(hf:fl < 256)(hv:Qc2 fl 4=true)(hfb:∀ i,i < 4→f i < 256)(hc:∀ i,i < 4→w.cell? ⟨b,o+i,J⟩=Y (V .u8 (f i:Int)))(hbox:Box w X B a) :
  Calls U 68 #[Qcb (fl:Int) 4 (Y ⟨b,o,J⟩) 4 c1 a2 n2 c2,M (Y ⟨X,0,J⟩)] w fun e w'=>Qcv X B w w' (.inr { a with med:=((num f:Nat):Int) }) e:=by
 have hs:Qfj 4 4=true:=rfl
 have hX:=hbox.pos
 have hbl:=E w _ (hc 0 (by omega))
 simp only at hbl
 have KN:Hid (∀ (w1:World),Below w.heap.size w w1→Calls U 99 #[I (Y ⟨b,o,J⟩) 4 c1] w1 fun e w'=>e=D (I (Y ⟨w1.heap.size,0,J⟩) 1 1)∧w'.cell? ⟨w1.heap.size,0,J⟩=Y (V .u32 ((num f:Nat):Int))∧Below w1.heap.size w1 w'):=fun w1 hb=>Ql8 b o c1 f w1 hfb (fun i hi=>by rw [hb.cell (p:=⟨b,o+i,J⟩) hbl]; exact hc i hi)
 have HRZ:Hid (∀ w',Box w' X B { a with med:=((num f:Nat):Int) }→Qae (Qa2 X B) w w'→Qcv X B w w' (.inr { a with med:=((num f:Nat):Int) }) (D (.tuple #[]))):=fun w' h8 h9=>⟨rfl,h8,h9⟩
 have hnl:num f < 4294967296:=by
  have:=hfb 0 (by omega); have:=hfb 1 (by omega); have:=hfb 2 (by omega); have:=hfb 3 (by omega)
  unfold num; omega
 have HX:=Qaa hbox
 clear hbox hc hfb
 unfold Qcb
 generalize num f=y at *
 generalize ha1:Y (⟨b,o,J⟩:Addr)=a1 at *
 have HBA:Hid (Below w.heap.size w (w.alloc (R #[V Z (fl:Int),V Z 4,I a1 4 c1,I a2 n2 c2] 122))):=(L _ _).alloc (T _) _
 have KH:Hid (∀ (w1:World) (_:Hid (Below w.heap.size w w1)) (x:Qap w1),Calls U 95 #[.agg #[V Z (fl:Int),V Z 4,I a1 4 c1,I a2 n2 c2]] x.w fun e w'=>e=D (.bool true)∧∃ y:Qap w1,w'=y.w):=fun w1 hb x=>Qnt fl 4 a1 4 c1 a2 n2 c2 w hS hf (by omega) (by omega) true hv w1 hb x
 have KF:Hid (∀ (w1:World) (_:Hid (Below w.heap.size w w1)) (x:Qap w1),Calls U 96 #[V Z 4,V Z 4] x.w fun e w'=>e=D (.bool true)∧∃ y:Qap w1,w'=y.w):=fun w1 hb x=>Qnh 4 4 w hS (by omega) (by omega) (by omega) true hs w1 hb x
 have x0:∀ x:Qap (w.alloc (R #[V Z (fl:Int),V Z 4,I a1 4 c1,I a2 n2 c2] 122)),x.w.cell? ⟨w.heap.size,0,J⟩=Y (V Z (fl:Int)):=fun x=>x.cell (by simp [go_sem])
 have x1:∀ x:Qap (w.alloc (R #[V Z (fl:Int),V Z 4,I a1 4 c1,I a2 n2 c2] 122)),x.w.cell? ⟨w.heap.size,1,J⟩=Y (V Z 4):=fun x=>x.cell (by simp [go_sem])
 have x2:∀ x:Qap (w.alloc (R #[V Z (fl:Int),V Z 4,I a1 4 c1,I a2 n2 c2] 122)),x.w.cell? ⟨w.heap.size,2,J⟩=Y (I a1 4 c1):=fun x=>x.cell (by simp [go_sem])
 have x3:∀ x:Qap (w.alloc (R #[V Z (fl:Int),V Z 4,I a1 4 c1,I a2 n2 c2] 122)),x.w.cell? ⟨w.heap.size,3,J⟩=Y (I a2 n2 c2):=fun x=>x.cell (by simp [go_sem])
 have hne:=Qbh (w.alloc (R #[V Z (fl:Int),V Z 4,I a1 4 c1,I a2 n2 c2] 122))
 clear hS hv hs
 subst ha1
 go_enter Tryz.func68,Tryz.ntmps68
 go_wp2_with fail
 refine Qa5 (by kernel_rfl) (by kernel_rfl) ?_
 repeat (go_big_quiet_step (first | (go_at_call 95; with_reducible exact KH.out _ HBA _) | (go_at_call 94; with_reducible exact Qfg _ _ _ _ _ _ _ _ _ _ _)))
 refine wpQuiet_nil ?_
 rintro _ ⟨xq,rfl⟩
 have HB3:Hid (Below w.heap.size w xq.w):=Qb6 HBA.out xq
 have p0:=x0 xq
 have p1:=x1 xq
 have p2:=x2 xq
 have p3:=x3 xq
 clear x0 x1 x2 x3 hne
 generalize xq.w=w3 at *
 have y0:∀ x:Qap w3,x.w.cell? ⟨w.heap.size,0,J⟩=Y (V Z (fl:Int)):=fun x=>x.cell p0
 have y1:∀ x:Qap w3,x.w.cell? ⟨w.heap.size,1,J⟩=Y (V Z 4):=fun x=>x.cell p1
 have y2:∀ x:Qap w3,x.w.cell? ⟨w.heap.size,2,J⟩=Y (I (Y ⟨b,o,J⟩) 4 c1):=fun x=>x.cell p2
 have y3:∀ x:Qap w3,x.w.cell? ⟨w.heap.size,3,J⟩=Y (I a2 n2 c2):=fun x=>x.cell p3
 have hne:=Qbh w3
 go_wp2_with fail
 refine Qa5 (by kernel_rfl) (by kernel_rfl) ?_
 repeat (go_big_quiet_step (first | (go_at_call 96; with_reducible exact KF.out _ HB3 _) | (go_at_call 94; with_reducible exact Qfg _ _ _ _ _ _ _ _ _ _ _)))
 refine wpQuiet_nil ?_
 rintro _ ⟨xr,rfl⟩
 have HB4:Hid (Below w.heap.size w xr.w):=Qb6 HB3.out xr
 have q0:=y0 xr
 have q1:=y1 xr
 have q2:=y2 xr
 have q3:=y3 xr
 clear y0 y1 y2 y3 hne p0 p1 p2 p3
 generalize xr.w=w4 at *
 clear KH KF HBA HB3
 have hz4:w.heap.size < w4.heap.size:=by have:=E w4 _ q0; simpa using this
 go_wp2_with fail
 refine (KN.out _ HB4.out).mono ?_
 rintro e w5 ⟨rfl,cy,hb5⟩
 have HX5:=Qaa (HX.out.later (HB4.out.trans (hb5.mono HB4.out.size)))
 have r1:=HX5.out.c3
 have f1:=HX5.out.fz 3
 have HX6:Hid (Box (w5.setCell ⟨X,3,J⟩ (V Z (y:Int))) X B { a with med:=(y:Int) }):=HX5.out.set 3 _ rfl rfl rfl rfl rfl rfl rfl
 have HK6:Hid (Qae (Qa2 X B) w (w5.setCell ⟨X,3,J⟩ (V Z (y:Int)))):=(Qat (HB4.out.trans (hb5.mono HB4.out.size))).setCell X 3 _ (.inl (.inl rfl))
 clear hb5
 go_wp2
 go_end0
 exact HRZ.out _ HX6.out HK6.out
theorem Jak (fl b o:Nat)(c1:Nat)(a2:Option Addr)(n2 c2:Nat)(f:Nat→Nat)(X B:Nat)(a:At)(w:World)(hS:Qfa w)(hf:fl < 256)(hv:Qc2 fl 5=true)(hfb:∀ i,i < 4→f i < 256)(hc:∀ i,i < 4→w.cell? ⟨b,o+i,J⟩=Y (V .u8 (f i:Int)))(hbox:Box w X B a) :
  Calls U 68 #[Qcb (fl:Int) 5 (Y ⟨b,o,J⟩) 4 c1 a2 n2 c2,M (Y ⟨X,0,J⟩)] w fun e w'=>Qcv X B w w' (.inr { a with pref:=((num f:Nat):Int) }) e:=by
 have hs:Qfj 5 4=true:=rfl
 have hX:=hbox.pos
 have hbl:=E w _ (hc 0 (by omega))
 simp only at hbl
 have KN:Hid (∀ (w1:World),Below w.heap.size w w1→Calls U 99 #[I (Y ⟨b,o,J⟩) 4 c1] w1 fun e w'=>e=D (I (Y ⟨w1.heap.size,0,J⟩) 1 1)∧w'.cell? ⟨w1.heap.size,0,J⟩=Y (V .u32 ((num f:Nat):Int))∧Below w1.heap.size w1 w'):=fun w1 hb=>Ql8 b o c1 f w1 hfb (fun i hi=>by rw [hb.cell (p:=⟨b,o+i,J⟩) hbl]; exact hc i hi)
 have HRZ:Hid (∀ w',Box w' X B { a with pref:=((num f:Nat):Int) }→Qae (Qa2 X B) w w'→Qcv X B w w' (.inr { a with pref:=((num f:Nat):Int) }) (D (.tuple #[]))):=fun w' h8 h9=>⟨rfl,h8,h9⟩
 have hnl:num f < 4294967296:=by
  have:=hfb 0 (by omega); have:=hfb 1 (by omega); have:=hfb 2 (by omega); have:=hfb 3 (by omega)
  unfold num; omega
 have HX:=Qaa hbox
 clear hbox hc hfb
 unfold Qcb
 generalize num f=y at *
 generalize ha1:Y (⟨b,o,J⟩:Addr)=a1 at *
 have HBA:Hid (Below w.heap.size w (w.alloc (R #[V Z (fl:Int),V Z 5,I a1 4 c1,I a2 n2 c2] 122))):=(L _ _).alloc (T _) _
 have KH:Hid (∀ (w1:World) (_:Hid (Below w.heap.size w w1)) (x:Qap w1),Calls U 95 #[.agg #[V Z (fl:Int),V Z 5,I a1 4 c1,I a2 n2 c2]] x.w fun e w'=>e=D (.bool true)∧∃ y:Qap w1,w'=y.w):=fun w1 hb x=>Qnt fl 5 a1 4 c1 a2 n2 c2 w hS hf (by omega) (by omega) true hv w1 hb x
 have KF:Hid (∀ (w1:World) (_:Hid (Below w.heap.size w w1)) (x:Qap w1),Calls U 96 #[V Z 5,V Z 4] x.w fun e w'=>e=D (.bool true)∧∃ y:Qap w1,w'=y.w):=fun w1 hb x=>Qnh 5 4 w hS (by omega) (by omega) (by omega) true hs w1 hb x
 have x0:∀ x:Qap (w.alloc (R #[V Z (fl:Int),V Z 5,I a1 4 c1,I a2 n2 c2] 122)),x.w.cell? ⟨w.heap.size,0,J⟩=Y (V Z (fl:Int)):=fun x=>x.cell (by simp [go_sem])
 have x1:∀ x:Qap (w.alloc (R #[V Z (fl:Int),V Z 5,I a1 4 c1,I a2 n2 c2] 122)),x.w.cell? ⟨w.heap.size,1,J⟩=Y (V Z 5):=fun x=>x.cell (by simp [go_sem])
 have x2:∀ x:Qap (w.alloc (R #[V Z (fl:Int),V Z 5,I a1 4 c1,I a2 n2 c2] 122)),x.w.cell? ⟨w.heap.size,2,J⟩=Y (I a1 4 c1):=fun x=>x.cell (by simp [go_sem])
 have x3:∀ x:Qap (w.alloc (R #[V Z (fl:Int),V Z 5,I a1 4 c1,I a2 n2 c2] 122)),x.w.cell? ⟨w.heap.size,3,J⟩=Y (I a2 n2 c2):=fun x=>x.cell (by simp [go_sem])
 have hne:=Qbh (w.alloc (R #[V Z (fl:Int),V Z 5,I a1 4 c1,I a2 n2 c2] 122))
 clear hS hv hs
 subst ha1
 go_enter Tryz.func68,Tryz.ntmps68
 go_wp2_with fail
 refine Qa5 (by kernel_rfl) (by kernel_rfl) ?_
 repeat (go_big_quiet_step (first | (go_at_call 95; with_reducible exact KH.out _ HBA _) | (go_at_call 94; with_reducible exact Qfg _ _ _ _ _ _ _ _ _ _ _)))
 refine wpQuiet_nil ?_
 rintro _ ⟨xq,rfl⟩
 have HB3:Hid (Below w.heap.size w xq.w):=Qb6 HBA.out xq
 have p0:=x0 xq
 have p1:=x1 xq
 have p2:=x2 xq
 have p3:=x3 xq
 clear x0 x1 x2 x3 hne
 generalize xq.w=w3 at *
 have y0:∀ x:Qap w3,x.w.cell? ⟨w.heap.size,0,J⟩=Y (V Z (fl:Int)):=fun x=>x.cell p0
 have y1:∀ x:Qap w3,x.w.cell? ⟨w.heap.size,1,J⟩=Y (V Z 5):=fun x=>x.cell p1
 have y2:∀ x:Qap w3,x.w.cell? ⟨w.heap.size,2,J⟩=Y (I (Y ⟨b,o,J⟩) 4 c1):=fun x=>x.cell p2
 have y3:∀ x:Qap w3,x.w.cell? ⟨w.heap.size,3,J⟩=Y (I a2 n2 c2):=fun x=>x.cell p3
 have hne:=Qbh w3
 go_wp2_with fail
 refine Qa5 (by kernel_rfl) (by kernel_rfl) ?_
 repeat (go_big_quiet_step (first | (go_at_call 96; with_reducible exact KF.out _ HB3 _) | (go_at_call 94; with_reducible exact Qfg _ _ _ _ _ _ _ _ _ _ _)))
 refine wpQuiet_nil ?_
 rintro _ ⟨xr,rfl⟩
 have HB4:Hid (Below w.heap.size w xr.w):=Qb6 HB3.out xr
 have q0:=y0 xr
 have q1:=y1 xr
 have q2:=y2 xr
 have q3:=y3 xr
 clear y0 y1 y2 y3 hne p0 p1 p2 p3
 generalize xr.w=w4 at *
 clear KH KF HBA HB3
 have hz4:w.heap.size < w4.heap.size:=by have:=E w4 _ q0; simpa using this
 go_wp2_with fail
 refine (KN.out _ HB4.out).mono ?_
 rintro e w5 ⟨rfl,cy,hb5⟩
 have HX5:=Qaa (HX.out.later (HB4.out.trans (hb5.mono HB4.out.size)))
 have r1:=HX5.out.c4
 have f1:=HX5.out.fz 4
 have HX6:Hid (Box (w5.setCell ⟨X,4,J⟩ (V Z (y:Int))) X B { a with pref:=(y:Int) }):=HX5.out.set 4 _ rfl rfl rfl rfl rfl rfl rfl
 have HK6:Hid (Qae (Qa2 X B) w (w5.setCell ⟨X,4,J⟩ (V Z (y:Int)))):=(Qat (HB4.out.trans (hb5.mono HB4.out.size))).setCell X 4 _ (.inl (.inl rfl))
 clear hb5
 go_wp2
 go_end0
 exact HRZ.out _ HX6.out HK6.out
theorem Jah (fl b o:Nat)(c1:Nat)(a2:Option Addr)(c2:Nat)(all:List Nat)(f:Nat→Nat)(X B:Nat)(a:At)(w:World)(hS:Qfa w)(hf:fl < 256)(hv:Qc2 fl 3=true)(hfb:∀ i,i < 4→f i < 256)(hc:∀ i,i < 4→w.cell? ⟨b,o+i,J⟩=Y (V .u8 (f i:Int)))(hl:all.length≤100000)(h:BRd w a2 all)(hbox:Box w X B a)(hX2:∀ ad,a2=Y ad→0 < all.length→ad.block < X) :
  Calls U 68 #[Qcb (fl:Int) 3 (Y ⟨b,o,J⟩) 4 c1 a2 all.length c2,M (Y ⟨X,0,J⟩)] w fun e w'=>Qcv X B w w' (if Qk0 (num f) then .inr { a with next:=num f } else .inl (3,8,all)) e:=by
 have hs:Qfj 3 4=true:=rfl
 have hX:=hbox.pos
 have hbl:=E w _ (hc 0 (by omega))
 simp only at hbl
 have KN:Hid (∀ (w1:World),Below w.heap.size w w1→Calls U 99 #[I (Y ⟨b,o,J⟩) 4 c1] w1 fun e w'=>e=D (I (Y ⟨w1.heap.size,0,J⟩) 1 1)∧w'.cell? ⟨w1.heap.size,0,J⟩=Y (V .u32 ((num f:Nat):Int))∧Below w1.heap.size w1 w'):=fun w1 hb=>Ql8 b o c1 f w1 hfb (fun i hi=>by rw [hb.cell (p:=⟨b,o+i,J⟩) hbl]; exact hc i hi)
 have hnl:num f < 4294967296:=by
  have:=hfb 0 (by omega); have:=hfb 1 (by omega); have:=hfb 2 (by omega); have:=hfb 3 (by omega)
  unfold num; omega
 have KO:Hid (∀ (w1:World) (x:Qap w1),Calls U 100 #[V .u32 ((num f:Nat):Int)] x.w fun e w'=>e=D (.bool (Qk0 (num f)))∧∃ z:Qap w1,w'=z.w):=fun w1 x=>Qfn x (Qr0 (num f) x.w hnl)
 have HR:=Qaa h
 have HX:=Qaa hbox
 clear hbox hc hfb h
 unfold Qcb
 generalize num f=y at *
 generalize hr:(if Qk0 y then (Sum.inr { a with next:=y } : Res) else .inl (3,8,all))=r
 have HRN:Hid (Qk0 y=false→∀ e w',Qd9 X B w w' 8 all e→Qcv X B w w' r e):=fun h2 e w' h9=>by rw [← hr,h2]; exact h9
 have HRY:Hid (Qk0 y=true→∀ w',Box w' X B { a with next:=y }→Qae (Qa2 X B) w w'→Qcv X B w w' r (D (.tuple #[]))):=fun h2 w' h8 h9=>by rw [← hr,if_pos h2]; exact ⟨rfl,h8,h9⟩
 clear hr
 generalize hn2:all.length=n2 at *
 generalize ha1:Y (⟨b,o,J⟩:Addr)=a1 at *
 have HBA:Hid (Below w.heap.size w (w.alloc (R #[V Z (fl:Int),V Z 3,I a1 4 c1,I a2 n2 c2] 122))):=(L _ _).alloc (T _) _
 have KH:Hid (∀ (w1:World) (_:Hid (Below w.heap.size w w1)) (x:Qap w1),Calls U 95 #[.agg #[V Z (fl:Int),V Z 3,I a1 4 c1,I a2 n2 c2]] x.w fun e w'=>e=D (.bool true)∧∃ y:Qap w1,w'=y.w):=fun w1 hb x=>Qnt fl 3 a1 4 c1 a2 n2 c2 w hS hf (by omega) (by omega) true hv w1 hb x
 have KF:Hid (∀ (w1:World) (_:Hid (Below w.heap.size w w1)) (x:Qap w1),Calls U 96 #[V Z 3,V Z 4] x.w fun e w'=>e=D (.bool true)∧∃ y:Qap w1,w'=y.w):=fun w1 hb x=>Qnh 3 4 w hS (by omega) (by omega) (by omega) true hs w1 hb x
 have x0:∀ x:Qap (w.alloc (R #[V Z (fl:Int),V Z 3,I a1 4 c1,I a2 n2 c2] 122)),x.w.cell? ⟨w.heap.size,0,J⟩=Y (V Z (fl:Int)):=fun x=>x.cell (by simp [go_sem])
 have x1:∀ x:Qap (w.alloc (R #[V Z (fl:Int),V Z 3,I a1 4 c1,I a2 n2 c2] 122)),x.w.cell? ⟨w.heap.size,1,J⟩=Y (V Z 3):=fun x=>x.cell (by simp [go_sem])
 have x2:∀ x:Qap (w.alloc (R #[V Z (fl:Int),V Z 3,I a1 4 c1,I a2 n2 c2] 122)),x.w.cell? ⟨w.heap.size,2,J⟩=Y (I a1 4 c1):=fun x=>x.cell (by simp [go_sem])
 have x3:∀ x:Qap (w.alloc (R #[V Z (fl:Int),V Z 3,I a1 4 c1,I a2 n2 c2] 122)),x.w.cell? ⟨w.heap.size,3,J⟩=Y (I a2 n2 c2):=fun x=>x.cell (by simp [go_sem])
 have hne:=Qbh (w.alloc (R #[V Z (fl:Int),V Z 3,I a1 4 c1,I a2 n2 c2] 122))
 clear hS hv hs
 subst ha1
 go_enter Tryz.func68,Tryz.ntmps68
 go_wp2_with fail
 refine Qa5 (by kernel_rfl) (by kernel_rfl) ?_
 repeat (go_big_quiet_step (first | (go_at_call 95; with_reducible exact KH.out _ HBA _) | (go_at_call 94; with_reducible exact Qfg _ _ _ _ _ _ _ _ _ _ _)))
 refine wpQuiet_nil ?_
 rintro _ ⟨xq,rfl⟩
 have HB3:Hid (Below w.heap.size w xq.w):=Qb6 HBA.out xq
 have p0:=x0 xq
 have p1:=x1 xq
 have p2:=x2 xq
 have p3:=x3 xq
 clear x0 x1 x2 x3 hne
 generalize xq.w=w3 at *
 have y0:∀ x:Qap w3,x.w.cell? ⟨w.heap.size,0,J⟩=Y (V Z (fl:Int)):=fun x=>x.cell p0
 have y1:∀ x:Qap w3,x.w.cell? ⟨w.heap.size,1,J⟩=Y (V Z 3):=fun x=>x.cell p1
 have y2:∀ x:Qap w3,x.w.cell? ⟨w.heap.size,2,J⟩=Y (I (Y ⟨b,o,J⟩) 4 c1):=fun x=>x.cell p2
 have y3:∀ x:Qap w3,x.w.cell? ⟨w.heap.size,3,J⟩=Y (I a2 n2 c2):=fun x=>x.cell p3
 have hne:=Qbh w3
 go_wp2_with fail
 refine Qa5 (by kernel_rfl) (by kernel_rfl) ?_
 repeat (go_big_quiet_step (first | (go_at_call 96; with_reducible exact KF.out _ HB3 _) | (go_at_call 94; with_reducible exact Qfg _ _ _ _ _ _ _ _ _ _ _)))
 refine wpQuiet_nil ?_
 rintro _ ⟨xr,rfl⟩
 have HB4:Hid (Below w.heap.size w xr.w):=Qb6 HB3.out xr
 have q0:=y0 xr
 have q1:=y1 xr
 have q2:=y2 xr
 have q3:=y3 xr
 clear y0 y1 y2 y3 hne p0 p1 p2 p3
 generalize xr.w=w4 at *
 clear KH KF HBA HB3
 have hz4:w.heap.size < w4.heap.size:=by have:=E w4 _ q0; simpa using this
 go_wp2_with fail
 refine (KN.out _ HB4.out).mono ?_
 rintro e w5 ⟨rfl,cy,hb5⟩
 have HX5:=Qaa (HX.out.later (HB4.out.trans (hb5.mono HB4.out.size)))
 have r1:=HX5.out.c2
 have f1:=HX5.out.fz 2
 have HX6:Hid (Box (w5.setCell ⟨X,2,J⟩ (V .u32 (y:Int))) X B { a with next:=y }):=HX5.out.set 2 _ rfl rfl rfl rfl rfl rfl rfl
 have HK6:Hid (Qae (Qa2 X B) w (w5.setCell ⟨X,2,J⟩ (V .u32 (y:Int)))):=(Qat (HB4.out.trans (hb5.mono HB4.out.size))).setCell X 2 _ (.inl (.inl rfl))
 rw [← hb5.cell (p:=⟨w.heap.size,0,J⟩) hz4] at q0
 rw [← hb5.cell (p:=⟨w.heap.size,1,J⟩) hz4] at q1
 rw [← hb5.cell (p:=⟨w.heap.size,2,J⟩) hz4] at q2
 rw [← hb5.cell (p:=⟨w.heap.size,3,J⟩) hz4] at q3
 clear hb5
 go_wp2_with fail
 have e0:∀ x:Qap (w5.setCell ⟨X,2,J⟩ (V .u32 (y:Int))),x.w.cell? ⟨X,2,J⟩=Y (V .u32 (y:Int)):=fun x=>x.cell HX6.out.c2
 have hne0:w.heap.size≠X:=by omega
 have y0:∀ x:Qap (w5.setCell ⟨X,2,J⟩ (V .u32 (y:Int))),x.w.cell? ⟨w.heap.size,0,J⟩=Y (V Z (fl:Int)):=fun x=>x.cell (by rw [World.cell?_setCell_other _ _ _ _ (by intro e9; injection e9 with e2 _ _; exact hne0 e2.symm)]; exact q0)
 have y1:∀ x:Qap (w5.setCell ⟨X,2,J⟩ (V .u32 (y:Int))),x.w.cell? ⟨w.heap.size,1,J⟩=Y (V Z 3):=fun x=>x.cell (by rw [World.cell?_setCell_other _ _ _ _ (by intro e9; injection e9 with e2 _ _; exact hne0 e2.symm)]; exact q1)
 have y2:∀ x:Qap (w5.setCell ⟨X,2,J⟩ (V .u32 (y:Int))),x.w.cell? ⟨w.heap.size,2,J⟩=Y (I (Y ⟨b,o,J⟩) 4 c1):=fun x=>x.cell (by rw [World.cell?_setCell_other _ _ _ _ (by intro e9; injection e9 with e2 _ _; exact hne0 e2.symm)]; exact q2)
 have y3:∀ x:Qap (w5.setCell ⟨X,2,J⟩ (V .u32 (y:Int))),x.w.cell? ⟨w.heap.size,3,J⟩=Y (I a2 n2 c2):=fun x=>x.cell (by rw [World.cell?_setCell_other _ _ _ _ (by intro e9; injection e9 with e2 _ _; exact hne0 e2.symm)]; exact q3)
 have hne:=Qbh (w5.setCell ⟨X,2,J⟩ (V .u32 (y:Int)))
 cases hh:Qk0 y with
 | false =>
  have HRZ:=Qaa (HRN.out hh)
  have KR:Hid (∀ x:Qap (w5.setCell ⟨X,2,J⟩ (V .u32 (y:Int))),Calls U 94 #[.agg #[V Z (fl:Int),V Z 3,I (Y ⟨b,o,J⟩) 4 c1,I a2 n2 c2],.bool false,V Z 8] x.w fun e w'=>Qd9 X B w w' 8 all e):=fun x=>Qh7 fl 3 8 (Y ⟨b,o,J⟩) 4 c1 a2 n2 c2 all X B w _ x hn2 hl HR.out HK6.out HX6.out hX2
  rw [hh] at KO
  unfold Qd9 at KR HRZ
  unfold Qdp at KR HRZ
  rw [hn2] at KR HRZ
  clear hh
  refine Qe3 (by kernel_rfl) (by kernel_rfl) (fun _ _ d _ _ h=>by cases d <;> exact h) rfl ?_
  simp only [List.dropLast]
  repeat (go_big_quiet_step (first | (go_at_call 100; with_reducible exact KO.out _ _)))
  refine wpQuiet_nil ?_
  refine ⟨rfl,fun x=>?_⟩
  go_simp
  refine (KR.out x).mono ?_
  rintro e w7 ⟨a9,c9,rfl,ho,hb7⟩
  exact ⟨rfl,HRZ.out _ _ ⟨a9,c9,rfl,ho,hb7⟩⟩
 | true =>
  have HRZ:=Qaa (HRY.out hh)
  rw [hh] at KO
  clear hh
  refine Qa5 (by kernel_rfl) (by kernel_rfl) ?_
  repeat (go_big_quiet_step (first | (go_at_call 100; with_reducible exact KO.out _ _) | (go_at_call 94; with_reducible exact Qfg _ _ _ _ _ _ _ _ _ _ _)))
  refine wpQuiet_nil ?_
  rintro _ ⟨xs,rfl⟩
  have HX7:=Qaa (HX6.out.later (by simpa using xs.h))
  have HK7:=Qaa (Qd5 HK6.out xs)
  clear e0 y0 y1 y2 y3 hne HX6 HK6
  generalize xs.w=w7 at *
  go_wp2
  go_end0
  exact HRZ.out _ HX7.out HK7.out
theorem Qn4 (x:Nat)(h:x < 256):(bits .and Z (x:Int) 128 != 0)=decide (128≤x):=by
  have e:bits .and Z (x:Int) 128=((x &&& 128:Nat):Int):=Qqr x 128 h (by decide)
  rw [e]
  have key:∀ y:Fin 256,((((y:Nat) &&& 128:Nat):Int) != 0)=decide (128≤(y:Nat)):=by decide +kernel
  exact key ⟨x,h⟩
theorem Qqf (x:Nat)(h:x < 256):(bits .and Z (x:Int) 64 == 0)=decide (x / 64 % 2=0):=by
  have e:bits .and Z (x:Int) 64=((x &&& 64:Nat):Int):=Qqr x 64 h (by decide)
  rw [e]
  have key:∀ y:Fin 256,((((y:Nat) &&& 64:Nat):Int) == 0)=decide ((y:Nat) / 64 % 2=0):=by decide +kernel
  exact key ⟨x,h⟩
theorem Qzp (fl ty:Nat)(a1:Option Addr)(n1 c1:Nat)(a2:Option Addr)(c2:Nat)(all:List Nat)(X:Nat)(w:World)(hf:fl < 128)(hl:all.length≤100000)(h:BRd w a2 all) :
    Calls U 93 #[Qcb (fl:Int) (ty:Int) a1 n1 c1 a2 all.length c2,M (Y ⟨X,0,J⟩)] w fun e w'=>Qbn w w' 2 all e:=by
  have hb:∀ o,Below w.heap.size w (w.alloc o):=fun o=>(L _ _).alloc (T _) _
  have K:Hid (∀ o,Calls U 94 #[Qcb (fl:Int) (ty:Int) a1 n1 c1 a2 all.length c2,.bool false,V Z 2] (w.alloc o) fun e w'=>Qbn w w' 2 all e):=fun o=>(Qhs _ _ 2 a1 n1 c1 a2 c2 all (w.alloc o) hl (h.below (hb o))).mono fun e w' h9=>h9.from (hb o)
  have ha:(bits .and Z (fl:Int) 128 != 0)=false:=by rw [Qn4 fl (by omega)]; exact decide_eq_false (by omega)
  clear h hb
  unfold Qcb at K ⊢
  unfold Qbn at K ⊢
  unfold Qdp at K ⊢
  generalize all.length=n2 at *
  go_enter Tryz.func93,Tryz.ntmps93
  go_wp2_with fail
  refine (K.out _).mono ?_
  rintro e w1 ⟨a9,c9,rfl,ho,hb⟩
  go_wp2
  exact ⟨rfl,a9,c9,rfl,ho,hb⟩
theorem Qfl (fl ty s:Int)(a1:Option Addr)(n1 c1:Nat)(a2:Option Addr)(n2 c2:Nat)(w0 w:World)(hb:Below w0.heap.size w0 w) :
    Calls U 94 #[.agg #[V Z fl,V Z ty,I a1 n1 c1,I a2 n2 c2],.bool true,V Z s] w fun e w'=>e=D (.tuple #[])∧Below w.heap.size w w'∧Below w0.heap.size w0 w' :=
  (Qk3 fl ty s a1 n1 c1 a2 n2 c2 w).mono fun _ _ ⟨h1,h2⟩=>⟨h1,h2,hb.trans (h2.mono hb.size)⟩
theorem Qww (fl ty:Nat)(a1:Option Addr)(n1 c1:Nat)(a2:Option Addr)(n2 c2:Nat)(X:Nat)(w:World)(hf:128≤fl)(hf2:fl < 256)(hz:fl / 64 % 2=0) :
    Calls U 93 #[Qcb (fl:Int) (ty:Int) a1 n1 c1 a2 n2 c2,M (Y ⟨X,0,J⟩)] w fun e w'=>e=D (.tuple #[])∧Below w.heap.size w w':=by
  have ha:(bits .and Z (fl:Int) 128 != 0)=true:=by rw [Qn4 fl hf2]; exact decide_eq_true hf
  have hz2:(bits .and Z (fl:Int) 64 == 0)=true:=by rw [Qqf fl hf2]; exact decide_eq_true hz
  unfold Qcb
  go_enter Tryz.func93,Tryz.ntmps93
  go_wp2_with fail
  refine (Qfl _ _ _ _ _ _ _ _ _ w _ ((L _ _).alloc (T _) _)).mono ?_
  rintro e w1 ⟨rfl,hb1,hb0⟩
  have p0:w1.cell? ⟨w.heap.size,0,J⟩=Y (V Z (fl:Int)):=by rw [hb1.cell (p:=⟨w.heap.size,0,J⟩) (by simp)]; simp [go_sem]
  go_wp2
  refine bodyPost_ret (results_none rfl _ _ _) rfl ?_
  exact ⟨rfl,hb0⟩
theorem Qy5 (fl ty:Nat)(a1:Option Addr)(n1 c1:Nat)(a2:Option Addr)(c2:Nat)(all:List Nat)(X:Nat)(w:World)(hf:128≤fl)(hf2:fl < 256)(hz:¬ fl / 64 % 2=0)(hn:255 < n1)(hl:all.length≤100000)(h:BRd w a2 all) :
    Calls U 93 #[Qcb (fl:Int) (ty:Int) a1 n1 c1 a2 all.length c2,M (Y ⟨X,0,J⟩)] w fun e w'=>Qbn w w' 9 all e:=by
  have ha:(bits .and Z (fl:Int) 128 != 0)=true:=by rw [Qn4 fl hf2]; exact decide_eq_true hf
  have hz2:(bits .and Z (fl:Int) 64 == 0)=false:=by rw [Qqf fl hf2]; exact decide_eq_false hz
  have K:Hid (∀ w1,Below w.heap.size w w1→Calls U 94 #[Qcb (fl:Int) (ty:Int) a1 n1 c1 a2 all.length c2,.bool false,V Z 9] w1 fun e w'=>Qbn w w' 9 all e):=fun w1 hb=>(Qhs _ _ 9 a1 n1 c1 a2 c2 all w1 hl (h.below hb)).mono fun e w' h9=>h9.from hb
  have dn:decide ((n1:Int)≤255)=false:=decide_eq_false (by omega)
  clear h
  unfold Qcb at K ⊢
  unfold Qbn at K ⊢
  unfold Qdp at K ⊢
  generalize all.length=n2 at *
  go_enter Tryz.func93,Tryz.ntmps93
  go_wp2_with fail
  refine (Qfl _ _ _ _ _ _ _ _ _ w _ ((L _ _).alloc (T _) _)).mono ?_
  rintro e w1 ⟨rfl,hb1,hb0⟩
  have p0:w1.cell? ⟨w.heap.size,0,J⟩=Y (V Z (fl:Int)):=by rw [hb1.cell (p:=⟨w.heap.size,0,J⟩) (by simp)]; simp [go_sem]
  have p1:w1.cell? ⟨w.heap.size,1,J⟩=Y (V Z (ty:Int)):=by rw [hb1.cell (p:=⟨w.heap.size,1,J⟩) (by simp)]; simp [go_sem]
  have p2:w1.cell? ⟨w.heap.size,2,J⟩=Y (I a1 n1 c1):=by rw [hb1.cell (p:=⟨w.heap.size,2,J⟩) (by simp)]; simp [go_sem]
  have p3:w1.cell? ⟨w.heap.size,3,J⟩=Y (I a2 n2 c2):=by rw [hb1.cell (p:=⟨w.heap.size,3,J⟩) (by simp)]; simp [go_sem]
  have HB0:=Qaa hb0
  clear hb1 hb0
  go_wp2_with fail
  refine (K.out _ HB0.out).mono ?_
  rintro e w2 ⟨a9,c9,rfl,ho,hb⟩
  go_wp2
  exact ⟨rfl,a9,c9,rfl,ho,hb⟩
theorem Qvu (fl:Nat)(a1:Option Addr)(n1 c1:Nat)(a2:Option Addr)(n2 c2:Nat)(X:Nat)(w:World)(hf:128≤fl)(hf2:fl < 256)(hz:¬ fl / 64 % 2=0)(hn:n1≤255) :
    Calls U 93 #[Qcb (fl:Int) 0 a1 n1 c1 a2 n2 c2,M (Y ⟨X,0,J⟩)] w fun e w'=>e=D (.tuple #[])∧Below w.heap.size w w':=by
  have ha:(bits .and Z (fl:Int) 128 != 0)=true:=by rw [Qn4 fl hf2]; exact decide_eq_true hf
  have hz2:(bits .and Z (fl:Int) 64 == 0)=false:=by rw [Qqf fl hf2]; exact decide_eq_false hz
  have dn:(n1:Int)≤255:=by omega
  unfold Qcb
  go_enter Tryz.func93,Tryz.ntmps93
  go_wp2_with fail
  refine (Qfl _ _ _ _ _ _ _ _ _ w _ ((L _ _).alloc (T _) _)).mono ?_
  rintro e w1 ⟨rfl,hb1,hb0⟩
  have p0:w1.cell? ⟨w.heap.size,0,J⟩=Y (V Z (fl:Int)):=by rw [hb1.cell (p:=⟨w.heap.size,0,J⟩) (by simp)]; simp [go_sem]
  have p1:w1.cell? ⟨w.heap.size,1,J⟩=Y (V Z 0):=by rw [hb1.cell (p:=⟨w.heap.size,1,J⟩) (by simp)]; simp [go_sem]
  have p2:w1.cell? ⟨w.heap.size,2,J⟩=Y (I a1 n1 c1):=by rw [hb1.cell (p:=⟨w.heap.size,2,J⟩) (by simp)]; simp [go_sem]
  have p3:w1.cell? ⟨w.heap.size,3,J⟩=Y (I a2 n2 c2):=by rw [hb1.cell (p:=⟨w.heap.size,3,J⟩) (by simp)]; simp [go_sem]
  have hz1:w.heap.size < w1.heap.size:=by have:=E w1 _ p0; simpa using this
  have HB0:=Qaa hb0
  clear hb1 hb0
  go_wp2_with fail
  refine (Qfl _ _ _ _ _ _ _ _ _ w _ HB0.out).mono ?_
  rintro e w2 ⟨rfl,hb2,hb20⟩
  have q1:w2.cell? ⟨w.heap.size,1,J⟩=Y (V Z 0):=by rw [hb2.cell (p:=⟨w.heap.size,1,J⟩) hz1]; exact p1
  go_wp2
  go_end0
  exact ⟨rfl,hb20⟩
section
variable {P:Program}{a:Act}{w w':World}{K:Act→World→Prop}{Q:Exit→Act→World→Prop}{dst:Option Tmp}{ty:TypeId}{pos:String}{after:Array Edge}{gd:Option (Nat×Bool)}
theorem Qgj (x y:Operand):Oper.wp P { dst:=dst,op:=.call { callee:=.builtin .append,args:=#[x,y],argTypes:=#[32,32] },type:=ty,pos:=pos,after:=after,guard:=gd } a w K Q=Qdl P { dst:=dst,op:=.call { callee:=.builtin .append,args:=#[x,y],argTypes:=#[32,32] },type:=ty,pos:=pos,after:=after,guard:=gd } a w K Q:=rfl
theorem Qb0 (x y:Operand)(p q v:Value)(hx:a.eval x=p)(hy:a.eval y=q)(hr:(Builtin.append_ #[32,32] ty #[p,q]).run P w=.ok v w')(h:K (a.put dst v) w') :
    Qdl P { dst:=dst,op:=.call { callee:=.builtin .append,args:=#[x,y],argTypes:=#[32,32] },type:=ty,pos:=pos,after:=after,guard:=gd } a w K Q:=by
  unfold Qdl Oper.wp execOp
  simp only [resolve,invoke,builtin,Sem.run_bind,Sem.run_pure,Result.andThen_ok,List.map_toArray,List.map_cons,List.map_nil,hx,hy,hr]
  exact h
end
section
attribute [local go_sem ↓] Go.wp_at_zero Go.wp_at_succ Qgj
theorem Qye (fl ty:Nat)(a1:Option Addr)(c1:Nat)(a2:Option Addr)(n2 c2:Nat)(d:List Nat)(X B:Nat)(a:At)(w:World)(hf:128≤fl)(hf2:fl < 256)(hz:¬ fl / 64 % 2=0)(hn:d.length≤255)(ht:8 < ty)(h:BRd w a1 d)(hbox:Box w X B a)(hB:B≤w.heap.size)(hl:a.raws.length≤10000) :
    Calls U 93 #[Qcb (fl:Int) (ty:Int) a1 d.length c1 a2 n2 c2,M (Y ⟨X,0,J⟩)] w fun e w'=>e=D (.tuple #[])∧Box w' X B { a with raws:=a.raws++[(224,(ty:Int),d)] }∧Qae (Qa2 X B) w w':=by
  have ha:(bits .and Z (fl:Int) 128 != 0)=true:=by rw [Qn4 fl hf2]; exact decide_eq_true hf
  have hz2:(bits .and Z (fl:Int) 64 == 0)=false:=by rw [Qqf fl hf2]; exact decide_eq_false hz
  have dn:(d.length:Int)≤255:=by omega
  have dt:((ty:Int) != 0)=true:=by simp; omega
  have hX:=hbox.pos
  have hXB:=hbox.lt
  have KC:Hid (∀ w1,Below w.heap.size w w1→Calls U 50 #[I a1 d.length c1] w1 fun e w'=>∃ a9 c9,e=D (I a9 d.length c9)∧w'.ownsRow w1.heap.size 5 1 (I a9 d.length c9) d.length (Qal d)∧Below w1.heap.size w1 w'):=fun w1 hb=>Qhg a1 c1 d w1 (by omega) (h.below hb)
  have HX:=Qaa hbox
  clear h hbox
  unfold Qcb
  generalize hdl:d.length=n1 at *
  go_enter Tryz.func93,Tryz.ntmps93
  go_wp2_with fail
  refine (Qfl _ _ _ _ _ _ _ _ _ w _ ((L _ _).alloc (T _) _)).mono ?_
  rintro e w1 ⟨rfl,hb1,hb0⟩
  have p0:w1.cell? ⟨w.heap.size,0,J⟩=Y (V Z (fl:Int)):=by rw [hb1.cell (p:=⟨w.heap.size,0,J⟩) (by simp)]; simp [go_sem]
  have p1:w1.cell? ⟨w.heap.size,1,J⟩=Y (V Z (ty:Int)):=by rw [hb1.cell (p:=⟨w.heap.size,1,J⟩) (by simp)]; simp [go_sem]
  have p2:w1.cell? ⟨w.heap.size,2,J⟩=Y (I a1 n1 c1):=by rw [hb1.cell (p:=⟨w.heap.size,2,J⟩) (by simp)]; simp [go_sem]
  have p3:w1.cell? ⟨w.heap.size,3,J⟩=Y (I a2 n2 c2):=by rw [hb1.cell (p:=⟨w.heap.size,3,J⟩) (by simp)]; simp [go_sem]
  have hz1:w.heap.size < w1.heap.size:=by have:=E w1 _ p0; simpa using this
  have HB0:=Qaa hb0
  clear hb1 hb0
  go_wp2_with fail
  refine (Qfl _ _ _ _ _ _ _ _ _ w _ HB0.out).mono ?_
  rintro e w2 ⟨rfl,hb2,hb20⟩
  have q1:w2.cell? ⟨w.heap.size,1,J⟩=Y (V Z (ty:Int)):=by rw [hb2.cell (p:=⟨w.heap.size,1,J⟩) hz1]; exact p1
  have q2:w2.cell? ⟨w.heap.size,2,J⟩=Y (I a1 n1 c1):=by rw [hb2.cell (p:=⟨w.heap.size,2,J⟩) hz1]; exact p2
  have hz12:w.heap.size < w2.heap.size:=Nat.lt_of_lt_of_le hz1 hb2.size
  have HX2:=Qaa (HX.out.later hb20)
  obtain ⟨p6,k6,r6,_⟩:=HX2.out.c6
  have HB20:=Qaa hb20
  have hX2:X < w2.heap.size:=by omega
  generalize hrl:a.raws.length=rl at *
  have HRL:=Qaa hrl
  clear hb2 hb20 p0 p1 p2 p3 hz1 HB0 HX hrl
  go_wp2_with fail
  go_region_with (first
    | (go_at_call 50; refine (KC.out _ (HB20.out.drew)).mono ?_; rintro e w9 ⟨a9,c9,rfl,ho9,hb9⟩
       have hbd:Below w2.heap.size w2 w9:=((L _ _).drew).trans hb9
       have HX9:=Qaa (HX2.out.later hbd)
       have hX9:X < w9.heap.size:=Nat.lt_of_lt_of_le hX2 hbd.size
       have hz9:w.heap.size < w9.heap.size:=Nat.lt_of_lt_of_le hz12 hbd.size
       have r69:w9.cell? ⟨X,6,J⟩=Y (I p6 rl k6):=(by rw [hbd.cell (p:=⟨X,6,J⟩) hX2]; exact r6)
       have q19:w9.cell? ⟨w.heap.size,1,J⟩=Y (V Z (ty:Int)):=(by rw [hbd.cell (p:=⟨w.heap.size,1,J⟩) hz12]; exact q1)
       obtain ⟨p',c',w3,hr3,hb3,hx3⟩:=HX9.out.snoc (f:=224) (t:=(ty:Int)) (ds:=d) (u:=I a9 n1 c9) (by have:=hbd.size; have:=HB20.out.size; omega) (by rw [HRL.out]; omega) (by rw [HRL.out]; exact r69) (by rw [hdl]; exact Qan ho9 (by simp; have:=HB20.out.size; omega)) w9.heap.size rfl
       rw [HRL.out] at hr3 hx3
       have t6:w3.cell? ⟨X,6,J⟩=Y (I p6 rl k6):=(by rw [hb3.cell (p:=⟨X,6,J⟩) hXB]; exact r69)
       have z6:w3.frozen? ⟨X,6,J⟩=false:=(by rw [hb3.frozen (p:=⟨X,6,J⟩) hXB]; exact HX9.out.fz 6)
       have HR3:=Qaa hr3
       have HX3:=Qaa hx3
       have HK3:=Qaa (Qgd (Qgd (Qat (X:=X) (B:=B) HB20.out) (hbd.mono (by have:=HB20.out.size; omega))) hb3)
       clear hr3 hx3 hb3 hbd hb9)
    | (refine Qb0 _ _ (I p6 rl k6) (I (Y ⟨w9.heap.size,0,J⟩) 1 1) (I p' (rl+1) c') (w':=w3) (by rfl) (by rfl) (by exact HR3.out) ?_))
  all_goals go_wp2
  all_goals go_end0
  all_goals exact ⟨rfl,HX3.out,HK3.out.setCell X 6 _ (.inl (.inl rfl))⟩
end
