import Derived.Test.YtdojlejehjbliaaGreatDoorPA20
namespace Go.Proofs.YtdojlejehjbliaaGreatDoor
set_option maxHeartbeats 4000000
open _root_.Go.Value renaming slice → I,int → J,bool → L,pointer → N
open _root_.Go.IntKind renaming i64 → V
open _root_.Go.Proofs.Tryz renaming prog → Z
open _root_.Option renaming none → Q,some → Y
open _root_.Go.Obj renaming cells → U
open _root_.Go.Ending renaming returned → E
open _root_.Nat renaming le_refl → D
open _root_.Go.World renaming block_lt_of_cell? → T
open _root_.Go.RowKit.Below renaming refl → M
open Go.RowKit
set_option maxRecDepth 100000
theorem Qkw (fl ty s:Int)(a1:Option Addr)(n1 c1:Nat)(a2:Option Addr)(c2:Nat)(d:List Nat)(w0 w:World)(hl:d.length≤100000)(h:BRd w0 a2 d)(hb:Below w0.heap.size w0 w) :
  Calls Z 94 #[.agg #[J V fl,J V ty,I a1 n1 c1,I a2 d.length c2],L false,J V s] w fun e w'=>Qbn w0 w' s d e :=
 (Qhs fl ty s a1 n1 c1 a2 c2 d w hl (h.below hb)).mono fun _ _ h9=>h9.from hb
theorem Qjy (fl ty:Nat)(a1:Option Addr)(n1 c1:Nat)(a2:Option Addr)(n2 c2:Nat)(w0 w:World)(hS:Qfa w0)(hf:fl < 256)(h1:1≤ty)(h8:ty≤8)(v:Bool)(hv:Qc2 fl ty=v)(hb:Below w0.heap.size w0 w) :
  Calls Z 95 #[.agg #[J V (fl:Int),J V (ty:Int),I a1 n1 c1,I a2 n2 c2]] w fun e w'=>e=E (L v)∧Below w.heap.size w w'∧Below w0.heap.size w0 w' :=
 (Qm3 fl ty a1 n1 c1 a2 n2 c2 w (hS.below hb) hf h1 h8).mono fun _ _ ⟨g1,g2⟩=>⟨by rw [g1,hv],g2,hb.trans (g2.mono hb.size)⟩
theorem Qzi (k n:Nat)(w0 w:World)(hS:Qfa w0)(h1:1≤k)(h8:k≤8)(hn:n≤1000000)(v:Bool)(hv:Qfj k n=v)(hb:Below w0.heap.size w0 w):Calls Z 96 #[J V (k:Int),J V (n:Int)] w fun e w'=>e=E (L v)∧w'=w :=
 (Qwd k n w (hS.below hb) h1 h8 hn).mono fun _ _ ⟨g1,g2⟩=>⟨by rw [g1,hv],g2⟩
theorem Qgh (fl ty:Nat)(a1:Option Addr)(n1 c1:Nat)(a2:Option Addr)(n2 c2:Nat)(X:Nat)(w:World)(R:World→Prop)(hty:ty=0∨8 < ty)
  (K:∀ w1,Below w.heap.size w w1→Calls Z 93 #[Qcb (fl:Int) (ty:Int) a1 n1 c1 a2 n2 c2,N (Y ⟨X,0,Q⟩)] w1 fun e w'=>e=E (.tuple #[])∧R w') :
  Calls Z 68 #[Qcb (fl:Int) (ty:Int) a1 n1 c1 a2 n2 c2,N (Y ⟨X,0,Q⟩)] w fun e w'=>e=E (.tuple #[])∧R w':=by
 have HK:=Qaa K
 clear K
 unfold Qcb at HK ⊢
 rcases hty with rfl | h
 ·go_enter Tryz.func68,Tryz.ntmps68
  go_wp2_with fail
  refine (HK.out _ ((M _ _).alloc (D _) _)).mono ?_
  rintro e w1 ⟨rfl,hr⟩
  have HR:=Qaa hr
  clear hr
  go_wp2
  refine bodyPost_ret (results_none rfl _ _ _) rfl ?_
  exact ⟨rfl,HR.out⟩
 ·have d1:decide ((ty:Int) < 1)=false:=decide_eq_false (by omega)
  have d8:(8:Int) < (ty:Int):=by omega
  go_enter Tryz.func68,Tryz.ntmps68
  go_wp2_with fail
  refine (HK.out _ ((M _ _).alloc (D _) _)).mono ?_
  rintro e w1 ⟨rfl,hr⟩
  have HR:=Qaa hr
  clear hr
  go_wp2
  refine bodyPost_ret (results_none rfl _ _ _) rfl ?_
  exact ⟨rfl,HR.out⟩
theorem Qgz (fl ty:Nat)(a1:Option Addr)(n1 c1:Nat)(a2:Option Addr)(n2 c2:Nat)(X:Nat)(w:World)(s:Int)(d:List Nat)(hty:ty=0∨8 < ty)
  (K:∀ w1,Below w.heap.size w w1→Calls Z 93 #[Qcb (fl:Int) (ty:Int) a1 n1 c1 a2 n2 c2,N (Y ⟨X,0,Q⟩)] w1 fun e w'=>Qbn w1 w' s d e) :
  Calls Z 68 #[Qcb (fl:Int) (ty:Int) a1 n1 c1 a2 n2 c2,N (Y ⟨X,0,Q⟩)] w fun e w'=>Qbn w w' s d e:=by
 have HK:Hid (∀ w1,Below w.heap.size w w1→Calls Z 93 #[Qcb (fl:Int) (ty:Int) a1 n1 c1 a2 n2 c2,N (Y ⟨X,0,Q⟩)] w1 fun e w'=>Qbn w w' s d e):=fun w1 hb=>(K w1 hb).mono fun _ _ h9=>h9.from hb
 clear K
 unfold Qcb at HK ⊢
 unfold Qbn at HK ⊢
 unfold Qdp at HK ⊢
 rcases hty with rfl | h
 ·go_enter Tryz.func68,Tryz.ntmps68
  go_wp2_with fail
  refine (HK.out _ ((M _ _).alloc (D _) _)).mono ?_
  rintro e w1 ⟨a9,c9,rfl,ho,hb⟩
  go_wp2
  exact ⟨rfl,a9,c9,rfl,ho,hb⟩
 ·have d1:decide ((ty:Int) < 1)=false:=decide_eq_false (by omega)
  have d8:(8:Int) < (ty:Int):=by omega
  go_enter Tryz.func68,Tryz.ntmps68
  go_wp2_with fail
  refine (HK.out _ ((M _ _).alloc (D _) _)).mono ?_
  rintro e w1 ⟨a9,c9,rfl,ho,hb⟩
  go_wp2
  exact ⟨rfl,a9,c9,rfl,ho,hb⟩
theorem Qb6 {w0 w:World}(hb:Below w0.heap.size w0 w)(x:Qap w):Below w0.heap.size w0 x.w:=hb.trans (x.h.mono hb.size)
theorem Qsk (fl ty:Nat)(a1:Option Addr)(n1 c1:Nat)(a2:Option Addr)(c2:Nat)(all:List Nat)(X:Nat)(w:World)(hS:Qfa w)(hf:fl < 256)(h1:1≤ty)(h8:ty≤8)(hv:Qc2 fl ty=false)(hl:all.length≤100000)(h:BRd w a2 all) :
  Calls Z 68 #[Qcb (fl:Int) (ty:Int) a1 n1 c1 a2 all.length c2,N (Y ⟨X,0,Q⟩)] w fun e w'=>Qbn w w' 4 all e:=by
 have hba:Below w.heap.size w (w.alloc (U #[J V (fl:Int),J V (ty:Int),I a1 n1 c1,I a2 all.length c2] 122)):=(M _ _).alloc (D _) _
 have KH:Hid (∀ x:Qap (w.alloc (U #[J V (fl:Int),J V (ty:Int),I a1 n1 c1,I a2 all.length c2] 122)),Calls Z 95 #[.agg #[J V (fl:Int),J V (ty:Int),I a1 n1 c1,I a2 all.length c2]] x.w fun e w'=>e=E (L false)∧∃ y:Qap (w.alloc (U #[J V (fl:Int),J V (ty:Int),I a1 n1 c1,I a2 all.length c2] 122)),w'=y.w):=fun x=>Qe1 x ((Qjy fl ty a1 n1 c1 a2 all.length c2 w x.w hS hf h1 h8 false hv (Qb6 hba x)).mono fun _ _ h9=>⟨h9.1,h9.2.1⟩)
 have KR:Hid (∀ x:Qap (w.alloc (U #[J V (fl:Int),J V (ty:Int),I a1 n1 c1,I a2 all.length c2] 122)),Calls Z 94 #[.agg #[J V (fl:Int),J V (ty:Int),I a1 n1 c1,I a2 all.length c2],L false,J V 4] x.w fun e w'=>Qbn w w' 4 all e):=fun x=>Qkw _ _ 4 a1 n1 c1 a2 c2 all w x.w hl h (Qb6 hba x)
 have d1:decide ((ty:Int) < 1)=false:=decide_eq_false (by omega)
 have d8:decide ((8:Int) < (ty:Int))=false:=decide_eq_false (by omega)
 clear hS h hv hba
 unfold Qcb
 unfold Qbn at KR ⊢
 unfold Qdp at KR ⊢
 generalize all.length=n2 at *
 have x0:∀ x:Qap (w.alloc (U #[J V (fl:Int),J V (ty:Int),I a1 n1 c1,I a2 n2 c2] 122)),x.w.cell? ⟨w.heap.size,0,Q⟩=Y (J V (fl:Int)):=fun x=>x.cell (by simp [go_sem])
 have x1:∀ x:Qap (w.alloc (U #[J V (fl:Int),J V (ty:Int),I a1 n1 c1,I a2 n2 c2] 122)),x.w.cell? ⟨w.heap.size,1,Q⟩=Y (J V (ty:Int)):=fun x=>x.cell (by simp [go_sem])
 have x2:∀ x:Qap (w.alloc (U #[J V (fl:Int),J V (ty:Int),I a1 n1 c1,I a2 n2 c2] 122)),x.w.cell? ⟨w.heap.size,2,Q⟩=Y (I a1 n1 c1):=fun x=>x.cell (by simp [go_sem])
 have x3:∀ x:Qap (w.alloc (U #[J V (fl:Int),J V (ty:Int),I a1 n1 c1,I a2 n2 c2] 122)),x.w.cell? ⟨w.heap.size,3,Q⟩=Y (I a2 n2 c2):=fun x=>x.cell (by simp [go_sem])
 have hne:=Qbh (w.alloc (U #[J V (fl:Int),J V (ty:Int),I a1 n1 c1,I a2 n2 c2] 122))
 go_enter Tryz.func68,Tryz.ntmps68
 go_wp2_with fail
 refine Qe3 (by kernel_rfl) (by kernel_rfl) (fun _ _ d _ _ h=>by cases d <;> exact h) rfl ?_
 simp only [List.dropLast]
 repeat (go_big_quiet_step (first | (go_at_call 95; with_reducible exact KH.out _)))
 refine wpQuiet_nil ?_
 refine ⟨rfl,fun x=>?_⟩
 go_simp
 refine (KR.out x).mono ?_
 rintro e w3 ⟨a9,c9,rfl,ho,hb3⟩
 exact ⟨rfl,a9,c9,rfl,ho,hb3⟩
theorem Qnt (fl ty:Nat)(a1:Option Addr)(n1 c1:Nat)(a2:Option Addr)(n2 c2:Nat)(w:World)(hS:Qfa w)(hf:fl < 256)(h1:1≤ty)(h8:ty≤8)(v:Bool)(hv:Qc2 fl ty=v)(w1:World)(hb:Hid (Below w.heap.size w w1))(x:Qap w1) :
  Calls Z 95 #[.agg #[J V (fl:Int),J V (ty:Int),I a1 n1 c1,I a2 n2 c2]] x.w fun e w'=>e=E (L v)∧∃ y:Qap w1,w'=y.w :=
 Qe1 x ((Qjy fl ty a1 n1 c1 a2 n2 c2 w x.w hS hf h1 h8 v hv (Qb6 hb.out x)).mono fun _ _ h9=>⟨h9.1,h9.2.1⟩)
theorem Qnh (k n:Nat)(w:World)(hS:Qfa w)(h1:1≤k)(h8:k≤8)(hn:n≤1000000)(v:Bool)(hv:Qfj k n=v)(w1:World)(hb:Hid (Below w.heap.size w w1))(x:Qap w1) :
  Calls Z 96 #[J V (k:Int),J V (n:Int)] x.w fun e w'=>e=E (L v)∧∃ y:Qap w1,w'=y.w :=
 Qfn x (Qzi k n w x.w hS h1 h8 hn v hv (Qb6 hb.out x))
theorem Qfg (fl ty s:Int)(a1:Option Addr)(n1 c1:Nat)(a2:Option Addr)(n2 c2:Nat)(w1:World)(x:Qap w1) :
  Calls Z 94 #[.agg #[J V fl,J V ty,I a1 n1 c1,I a2 n2 c2],L true,J V s] x.w fun e w'=>e=E (.tuple #[])∧∃ y:Qap w1,w'=y.w :=
 Qe1 x (Qk3 fl ty s a1 n1 c1 a2 n2 c2 x.w)
theorem Quc (fl ty:Nat)(a1:Option Addr)(n1 c1:Nat)(a2:Option Addr)(c2:Nat)(all:List Nat)(X:Nat)(w:World)(hS:Qfa w)(hf:fl < 256)(h1:1≤ty)(h8:ty≤8)(hv:Qc2 fl ty=true)(hs:Qfj ty n1=false)(hn:n1≤100000)(hl:all.length≤100000)(h:BRd w a2 all) :
  Calls Z 68 #[Qcb (fl:Int) (ty:Int) a1 n1 c1 a2 all.length c2,N (Y ⟨X,0,Q⟩)] w fun e w'=>Qbn w w' 5 all e:=by
 have KR:Hid (∀ (w1:World) (_:Hid (Below w.heap.size w w1)) (x:Qap w1),Calls Z 94 #[.agg #[J V (fl:Int),J V (ty:Int),I a1 n1 c1,I a2 all.length c2],L false,J V 5] x.w fun e w'=>Qbn w w' 5 all e):=fun w1 hb x=>Qkw _ _ 5 a1 n1 c1 a2 c2 all w x.w hl h (Qb6 hb.out x)
 have d1:decide ((ty:Int) < 1)=false:=decide_eq_false (by omega)
 have d8:decide ((8:Int) < (ty:Int))=false:=decide_eq_false (by omega)
 unfold Qcb
 unfold Qbn at KR ⊢
 unfold Qdp at KR ⊢
 generalize all.length=n2 at *
 have HBA:Hid (Below w.heap.size w (w.alloc (U #[J V (fl:Int),J V (ty:Int),I a1 n1 c1,I a2 n2 c2] 122))):=(M _ _).alloc (D _) _
 have KH:Hid (∀ (w1:World) (_:Hid (Below w.heap.size w w1)) (x:Qap w1),Calls Z 95 #[.agg #[J V (fl:Int),J V (ty:Int),I a1 n1 c1,I a2 n2 c2]] x.w fun e w'=>e=E (L true)∧∃ y:Qap w1,w'=y.w):=fun w1 hb x=>Qnt fl ty a1 n1 c1 a2 n2 c2 w hS hf (by omega) (by omega) true hv w1 hb x
 have KF:Hid (∀ (w1:World) (_:Hid (Below w.heap.size w w1)) (x:Qap w1),Calls Z 96 #[J V (ty:Int),J V (n1:Int)] x.w fun e w'=>e=E (L false)∧∃ y:Qap w1,w'=y.w):=fun w1 hb x=>Qnh ty n1 w hS (by omega) (by omega) (by omega) false hs w1 hb x
 have x0:∀ x:Qap (w.alloc (U #[J V (fl:Int),J V (ty:Int),I a1 n1 c1,I a2 n2 c2] 122)),x.w.cell? ⟨w.heap.size,0,Q⟩=Y (J V (fl:Int)):=fun x=>x.cell (by simp [go_sem])
 have x1:∀ x:Qap (w.alloc (U #[J V (fl:Int),J V (ty:Int),I a1 n1 c1,I a2 n2 c2] 122)),x.w.cell? ⟨w.heap.size,1,Q⟩=Y (J V (ty:Int)):=fun x=>x.cell (by simp [go_sem])
 have x2:∀ x:Qap (w.alloc (U #[J V (fl:Int),J V (ty:Int),I a1 n1 c1,I a2 n2 c2] 122)),x.w.cell? ⟨w.heap.size,2,Q⟩=Y (I a1 n1 c1):=fun x=>x.cell (by simp [go_sem])
 have x3:∀ x:Qap (w.alloc (U #[J V (fl:Int),J V (ty:Int),I a1 n1 c1,I a2 n2 c2] 122)),x.w.cell? ⟨w.heap.size,3,Q⟩=Y (I a2 n2 c2):=fun x=>x.cell (by simp [go_sem])
 have hne:=Qbh (w.alloc (U #[J V (fl:Int),J V (ty:Int),I a1 n1 c1,I a2 n2 c2] 122))
 clear hS h hv hs
 go_enter Tryz.func68,Tryz.ntmps68
 go_wp2_with fail
 refine Qa5 (by kernel_rfl) (by kernel_rfl) ?_
 repeat (go_big_quiet_step (first | (go_at_call 95; with_reducible exact KH.out _ HBA _) | (go_at_call 94; with_reducible exact Qfg _ _ _ _ _ _ _ _ _ _ _)))
 refine wpQuiet_nil ?_
 rintro _ ⟨xq,rfl⟩
 have HB3:Hid (Below w.heap.size w xq.w):=Qb6 HBA.out xq
 have p0:=x0 xq
 have p1:=x1 xq
 have p2:=x2 xq
 have p3:=x3 xq
 clear x0 x1 x2 x3 hne
 generalize xq.w=w3 at *
 have y0:∀ x:Qap w3,x.w.cell? ⟨w.heap.size,0,Q⟩=Y (J V (fl:Int)):=fun x=>x.cell p0
 have y1:∀ x:Qap w3,x.w.cell? ⟨w.heap.size,1,Q⟩=Y (J V (ty:Int)):=fun x=>x.cell p1
 have y2:∀ x:Qap w3,x.w.cell? ⟨w.heap.size,2,Q⟩=Y (I a1 n1 c1):=fun x=>x.cell p2
 have y3:∀ x:Qap w3,x.w.cell? ⟨w.heap.size,3,Q⟩=Y (I a2 n2 c2):=fun x=>x.cell p3
 have hne:=Qbh w3
 go_wp2_with fail
 refine Qe3 (by kernel_rfl) (by kernel_rfl) (fun _ _ d _ _ h=>by cases d <;> exact h) rfl ?_
 simp only [List.dropLast]
 repeat (go_big_quiet_step (first | (go_at_call 96; with_reducible exact KF.out _ HB3 _)))
 refine wpQuiet_nil ?_
 refine ⟨rfl,fun x=>?_⟩
 go_simp
 refine (KR.out _ HB3 x).mono ?_
 rintro e w5 ⟨a9,c9,rfl,ho,hb5⟩
 exact ⟨rfl,a9,c9,rfl,ho,hb5⟩
theorem Qd5 {X B:Nat}{w w1:World} (h:Qae (Qa2 X B) w w1) (x:Qap w1):Qae (Qa2 X B) w x.w :=
 h.trans (Qae.of_below x.h (Qa2 X B)) (fun _ _ h9=>h9)
theorem Qh7 (fl:Nat)(ty s:Int)(a1:Option Addr)(n1 c1:Nat)(a2:Option Addr)(n2 c2:Nat)(d:List Nat)(X B:Nat){a:At}(w w1:World)(x:Qap w1)(hn:d.length=n2)(hl:n2≤100000)(h:BRd w a2 d)(hk:Qae (Qa2 X B) w w1)(hx:Box w1 X B a)(hX:∀ ad,a2=Y ad→0 < n2→ad.block < X) :
  Calls Z 94 #[.agg #[J V (fl:Int),J V ty,I a1 n1 c1,I a2 n2 c2],L false,J V s] x.w fun e w'=>Qd9 X B w w' s d e:=by
 subst hn
 have h1:BRd x.w a2 d:=⟨h.1.keeps (Qd5 hk x) (fun ad ha hp h9=>by
  have:=hX ad ha hp
  have:=hx.lt
  rcases h9 with h9 | h9 <;> omega),h.2⟩
 refine (Qhs (fl:Int) ty s a1 n1 c1 a2 c2 d x.w hl h1).mono ?_
 rintro e w' ⟨a9,c9,he,ho,hb⟩
 have hsz:=(Qd5 hk x).size
 have hxx:=hx.later x.h
 exact ⟨a9,c9,he,Qan ho hsz,(Qd5 hk x).trans (Qae.of_below hb (Qa2 X B)) (fun _ _ h9=>h9),a,hxx.later hb⟩
theorem Jan (fl y b o:Nat)(c1:Nat)(a2:Option Addr)(c2:Nat)(all:List Nat)(X B:Nat)(a:At)(w:World)(hS:Qfa w)(hf:fl < 256)(hv:Qc2 fl 1=true)(hy:y < 256)(hc:w.cell? ⟨b,o,Q⟩=Y (J .u8 (y:Int)))(hl:all.length≤100000)(h:BRd w a2 all)(hbox:Box w X B a)(hX2:∀ ad,a2=Y ad→0 < all.length→ad.block < X) :
  Calls Z 68 #[Qcb (fl:Int) 1 (Y ⟨b,o,Q⟩) 1 c1 a2 all.length c2,N (Y ⟨X,0,Q⟩)] w fun e w'=>Qcv X B w w' (if 2 < y then .inl (3,6,all) else .inr { a with origin:=(y:Int) }) e:=by
 have hs:Qfj 1 1=true:=rfl
 have hX:=hbox.pos
 have KO:Hid (∀ (w1:World) (x:Qap w1),Calls Z 97 #[J V (y:Int)] x.w fun e w'=>e=E (L (decide (y≤2)))∧∃ z:Qap w1,w'=z.w):=fun w1 x=>Qfn x ((Qm8 (y:Int) x.w).mono fun _ _ h9=>⟨by rw [h9.1,show decide (0≤(y:Int)∧(y:Int)≤2)=decide (y≤2) from by rw [Bool.eq_iff_iff]; simp only [decide_eq_true_eq]; omega],h9.2⟩)
 have HC:=Qaa hc
 have hbl:=T w _ hc
 simp only at hbl
 have HR:=Qaa h
 have HX:=Qaa hbox
 clear hc h hbox
 unfold Qcb
 generalize hr:(if 2 < y then (Sum.inl (3,6,all):Res) else .inr { a with origin:=(y:Int) })=r
 have HRN:Hid (2 < y→∀ e w',Qd9 X B w w' 6 all e→Qcv X B w w' r e):=fun h2 e w' h9=>by rw [← hr,if_pos h2]; exact h9
 have HRY:Hid (¬ 2 < y→∀ w',Box w' X B { a with origin:=(y:Int) }→Qae (Qa2 X B) w w'→Qcv X B w w' r (E (.tuple #[]))):=fun h2 w' h8 h9=>by rw [← hr,if_neg h2]; exact ⟨rfl,h8,h9⟩
 clear hr
 generalize hn2:all.length=n2 at *
 generalize ha1:Y (⟨b,o,Q⟩:Addr)=a1 at *
 have HBA:Hid (Below w.heap.size w (w.alloc (U #[J V (fl:Int),J V 1,I a1 1 c1,I a2 n2 c2] 122))):=(M _ _).alloc (D _) _
 have KH:Hid (∀ (w1:World) (_:Hid (Below w.heap.size w w1)) (x:Qap w1),Calls Z 95 #[.agg #[J V (fl:Int),J V 1,I a1 1 c1,I a2 n2 c2]] x.w fun e w'=>e=E (L true)∧∃ y:Qap w1,w'=y.w):=fun w1 hb x=>Qnt fl 1 a1 1 c1 a2 n2 c2 w hS hf (by omega) (by omega) true hv w1 hb x
 have KF:Hid (∀ (w1:World) (_:Hid (Below w.heap.size w w1)) (x:Qap w1),Calls Z 96 #[J V 1,J V 1] x.w fun e w'=>e=E (L true)∧∃ y:Qap w1,w'=y.w):=fun w1 hb x=>Qnh 1 1 w hS (by omega) (by omega) (by omega) true hs w1 hb x
 have x0:∀ x:Qap (w.alloc (U #[J V (fl:Int),J V 1,I a1 1 c1,I a2 n2 c2] 122)),x.w.cell? ⟨w.heap.size,0,Q⟩=Y (J V (fl:Int)):=fun x=>x.cell (by simp [go_sem])
 have x1:∀ x:Qap (w.alloc (U #[J V (fl:Int),J V 1,I a1 1 c1,I a2 n2 c2] 122)),x.w.cell? ⟨w.heap.size,1,Q⟩=Y (J V 1):=fun x=>x.cell (by simp [go_sem])
 have x2:∀ x:Qap (w.alloc (U #[J V (fl:Int),J V 1,I a1 1 c1,I a2 n2 c2] 122)),x.w.cell? ⟨w.heap.size,2,Q⟩=Y (I a1 1 c1):=fun x=>x.cell (by simp [go_sem])
 have x3:∀ x:Qap (w.alloc (U #[J V (fl:Int),J V 1,I a1 1 c1,I a2 n2 c2] 122)),x.w.cell? ⟨w.heap.size,3,Q⟩=Y (I a2 n2 c2):=fun x=>x.cell (by simp [go_sem])
 have hne:=Qbh (w.alloc (U #[J V (fl:Int),J V 1,I a1 1 c1,I a2 n2 c2] 122))
 clear hS hv hs
 subst ha1
 go_enter Tryz.func68,Tryz.ntmps68
 go_wp2_with fail
 refine Qa5 (by kernel_rfl) (by kernel_rfl) ?_
 repeat (go_big_quiet_step (first | (go_at_call 95; with_reducible exact KH.out _ HBA _) | (go_at_call 94; with_reducible exact Qfg _ _ _ _ _ _ _ _ _ _ _)))
 refine wpQuiet_nil ?_
 rintro _ ⟨xq,rfl⟩
 have HB3:Hid (Below w.heap.size w xq.w):=Qb6 HBA.out xq
 have p0:=x0 xq
 have p1:=x1 xq
 have p2:=x2 xq
 have p3:=x3 xq
 clear x0 x1 x2 x3 hne
 generalize xq.w=w3 at *
 have y0:∀ x:Qap w3,x.w.cell? ⟨w.heap.size,0,Q⟩=Y (J V (fl:Int)):=fun x=>x.cell p0
 have y1:∀ x:Qap w3,x.w.cell? ⟨w.heap.size,1,Q⟩=Y (J V 1):=fun x=>x.cell p1
 have y2:∀ x:Qap w3,x.w.cell? ⟨w.heap.size,2,Q⟩=Y (I (Y ⟨b,o,Q⟩) 1 c1):=fun x=>x.cell p2
 have y3:∀ x:Qap w3,x.w.cell? ⟨w.heap.size,3,Q⟩=Y (I a2 n2 c2):=fun x=>x.cell p3
 have hne:=Qbh w3
 go_wp2_with fail
 refine Qa5 (by kernel_rfl) (by kernel_rfl) ?_
 repeat (go_big_quiet_step (first | (go_at_call 96; with_reducible exact KF.out _ HB3 _) | (go_at_call 94; with_reducible exact Qfg _ _ _ _ _ _ _ _ _ _ _)))
 refine wpQuiet_nil ?_
 rintro _ ⟨xr,rfl⟩
 have HB4:Hid (Below w.heap.size w xr.w):=Qb6 HB3.out xr
 have q0:=y0 xr
 have q1:=y1 xr
 have q2:=y2 xr
 have q3:=y3 xr
 clear y0 y1 y2 y3 hne p0 p1 p2 p3
 generalize xr.w=w4 at *
 clear KH KF HBA HB3
 have hz4:w.heap.size < w4.heap.size:=by have:=T w4 _ q0; simpa using this
 have cy:w4.cell? ⟨b,o,Q⟩=Y (J .u8 (y:Int)):=by rw [HB4.out.cell (p:=⟨b,o,Q⟩) hbl]; exact HC.out
 have HX4:=Qaa (HX.out.later HB4.out)
 have r0:=HX4.out.c0
 have f0:=HX4.out.fz 0
 have hX4:X < w4.heap.size:=by omega
 have HX5:Hid (Box (w4.setCell ⟨X,0,Q⟩ (J V (y:Int))) X B { a with origin:=(y:Int) }):=HX4.out.set 0 _ rfl rfl rfl rfl rfl rfl rfl
 have HK5:Hid (Qae (Qa2 X B) w (w4.setCell ⟨X,0,Q⟩ (J V (y:Int)))):=(Qat HB4.out).setCell X 0 _ (.inl (.inl rfl))
 go_wp2_with fail
 have e0:∀ x:Qap (w4.setCell ⟨X,0,Q⟩ (J V (y:Int))),x.w.cell? ⟨X,0,Q⟩=Y (J V (y:Int)):=fun x=>x.cell HX5.out.c0
 have hne0:w.heap.size≠X:=by omega
 have y0:∀ x:Qap (w4.setCell ⟨X,0,Q⟩ (J V (y:Int))),x.w.cell? ⟨w.heap.size,0,Q⟩=Y (J V (fl:Int)):=fun x=>x.cell (by rw [World.cell?_setCell_other _ _ _ _ (by intro e9; injection e9 with e2 _ _; exact hne0 e2.symm)]; exact q0)
 have y1:∀ x:Qap (w4.setCell ⟨X,0,Q⟩ (J V (y:Int))),x.w.cell? ⟨w.heap.size,1,Q⟩=Y (J V 1):=fun x=>x.cell (by rw [World.cell?_setCell_other _ _ _ _ (by intro e9; injection e9 with e2 _ _; exact hne0 e2.symm)]; exact q1)
 have y2:∀ x:Qap (w4.setCell ⟨X,0,Q⟩ (J V (y:Int))),x.w.cell? ⟨w.heap.size,2,Q⟩=Y (I (Y ⟨b,o,Q⟩) 1 c1):=fun x=>x.cell (by rw [World.cell?_setCell_other _ _ _ _ (by intro e9; injection e9 with e2 _ _; exact hne0 e2.symm)]; exact q2)
 have y3:∀ x:Qap (w4.setCell ⟨X,0,Q⟩ (J V (y:Int))),x.w.cell? ⟨w.heap.size,3,Q⟩=Y (I a2 n2 c2):=fun x=>x.cell (by rw [World.cell?_setCell_other _ _ _ _ (by intro e9; injection e9 with e2 _ _; exact hne0 e2.symm)]; exact q3)
 have hne:=Qbh (w4.setCell ⟨X,0,Q⟩ (J V (y:Int)))
 by_cases h2:2 < y
 ·have HRZ:=Qaa (HRN.out h2)
  have d2:decide (y≤2)=false:=decide_eq_false (by omega)
  have KR:Hid (∀ x:Qap (w4.setCell ⟨X,0,Q⟩ (J V (y:Int))),Calls Z 94 #[.agg #[J V (fl:Int),J V 1,I (Y ⟨b,o,Q⟩) 1 c1,I a2 n2 c2],L false,J V 6] x.w fun e w'=>Qd9 X B w w' 6 all e):=fun x=>Qh7 fl 1 6 (Y ⟨b,o,Q⟩) 1 c1 a2 n2 c2 all X B w _ x hn2 hl HR.out HK5.out HX5.out hX2
  rw [d2] at KO
  unfold Qd9 at KR HRZ
  unfold Qdp at KR HRZ
  rw [hn2] at KR HRZ
  clear h2
  refine Qe3 (by kernel_rfl) (by kernel_rfl) (fun _ _ d _ _ h=>by cases d <;> exact h) rfl ?_
  simp only [List.dropLast]
  repeat (go_big_quiet_step (first | (go_at_call 97; with_reducible exact KO.out _ _)))
  refine wpQuiet_nil ?_
  refine ⟨rfl,fun x=>?_⟩
  go_simp
  refine (KR.out x).mono ?_
  rintro e w5 ⟨a9,c9,rfl,ho,hb5⟩
  exact ⟨rfl,HRZ.out _ _ ⟨a9,c9,rfl,ho,hb5⟩⟩
 ·have HRZ:=Qaa (HRY.out h2)
  have d2:decide (y≤2)=true:=decide_eq_true (by omega)
  rw [d2] at KO
  clear h2
  refine Qa5 (by kernel_rfl) (by kernel_rfl) ?_
  repeat (go_big_quiet_step (first | (go_at_call 97; with_reducible exact KO.out _ _) | (go_at_call 94; with_reducible exact Qfg _ _ _ _ _ _ _ _ _ _ _)))
  refine wpQuiet_nil ?_
  rintro _ ⟨xs,rfl⟩
  have HX6:=Qaa (HX5.out.later (by simpa using xs.h))
  have HK6:=Qaa (Qd5 HK5.out xs)
  clear e0 y0 y1 y2 y3 hne HX5 HK5
  generalize xs.w=w6 at *
  go_wp2
  go_end0
  exact HRZ.out _ HX6.out HK6.out
theorem Jbm (fl:Nat)(a1:Option Addr)(c1:Nat)(a2:Option Addr)(n2 c2:Nat)(d:List Nat)(X B:Nat)(a:At)(w:World)(hS:Qfa w)(hf:fl < 256)(hv:Qc2 fl 2=true)(hd:d.length≤10000)(hdc:d.length≤c1)(hdr:BRd w a1 d)(hbox:Box w X B a)(hB:B≤w.heap.size) :
  Calls Z 68 #[Qcb (fl:Int) 2 a1 d.length c1 a2 n2 c2,N (Y ⟨X,0,Q⟩)] w fun e w'=>Qcv X B w w' (match Qa3 (fun q=>d.getD q 0) d.length 0 [] with | none=>.inl (3,11,[]) | some p=>.inr { a with path:=p }) e:=by
 have hs:Qfj 2 d.length=true:=decide_eq_true ⟨Nat.zero_le _,by show d.length≤65535; omega,Nat.mod_one _⟩
 have hX:=hbox.pos
 have KP:Hid (∀ (w1:World),Below w.heap.size w w1→Calls Z 98 #[.agg #[J V (fl:Int),J V 2,I a1 d.length c1,I a2 n2 c2]] w1 fun e w'=>Qh4 w1 w' (Qa3 (fun q=>d.getD q 0) d.length 0 []) e):=fun w1 hb=>Qnb (fl:Int) 2 a1 c1 a2 n2 c2 d w1 hd hdc (hdr.below hb)
 have HX:=Qaa hbox
 clear hbox hdr
 unfold Qcb
 generalize Qa3 (fun q=>d.getD q 0) d.length 0 []=r at *
 generalize hn1:d.length=n1 at *
 clear hn1
 have HBA:Hid (Below w.heap.size w (w.alloc (U #[J V (fl:Int),J V 2,I a1 n1 c1,I a2 n2 c2] 122))):=(M _ _).alloc (D _) _
 have KH:Hid (∀ (w1:World) (_:Hid (Below w.heap.size w w1)) (x:Qap w1),Calls Z 95 #[.agg #[J V (fl:Int),J V 2,I a1 n1 c1,I a2 n2 c2]] x.w fun e w'=>e=E (L true)∧∃ y:Qap w1,w'=y.w):=fun w1 hb x=>Qnt fl 2 a1 n1 c1 a2 n2 c2 w hS hf (by omega) (by omega) true hv w1 hb x
 have KF:Hid (∀ (w1:World) (_:Hid (Below w.heap.size w w1)) (x:Qap w1),Calls Z 96 #[J V 2,J V (n1:Int)] x.w fun e w'=>e=E (L true)∧∃ y:Qap w1,w'=y.w):=fun w1 hb x=>Qnh 2 n1 w hS (by omega) (by omega) (by omega) true hs w1 hb x
 have x0:∀ x:Qap (w.alloc (U #[J V (fl:Int),J V 2,I a1 n1 c1,I a2 n2 c2] 122)),x.w.cell? ⟨w.heap.size,0,Q⟩=Y (J V (fl:Int)):=fun x=>x.cell (by simp [go_sem])
 have x1:∀ x:Qap (w.alloc (U #[J V (fl:Int),J V 2,I a1 n1 c1,I a2 n2 c2] 122)),x.w.cell? ⟨w.heap.size,1,Q⟩=Y (J V 2):=fun x=>x.cell (by simp [go_sem])
 have x2:∀ x:Qap (w.alloc (U #[J V (fl:Int),J V 2,I a1 n1 c1,I a2 n2 c2] 122)),x.w.cell? ⟨w.heap.size,2,Q⟩=Y (I a1 n1 c1):=fun x=>x.cell (by simp [go_sem])
 have x3:∀ x:Qap (w.alloc (U #[J V (fl:Int),J V 2,I a1 n1 c1,I a2 n2 c2] 122)),x.w.cell? ⟨w.heap.size,3,Q⟩=Y (I a2 n2 c2):=fun x=>x.cell (by simp [go_sem])
 have hne:=Qbh (w.alloc (U #[J V (fl:Int),J V 2,I a1 n1 c1,I a2 n2 c2] 122))
 clear hS hv hs
 cases r with
 | none =>
  unfold Qh4 at KP
  have HRZ:Hid (∀ e w',Qbn w w' 11 [] e→Qcv X B w w' (.inl (3,11,[])) e):=fun e w' h9=>h9.box HX.out
  have KP2:Hid (∀ (w1:World),Below w.heap.size w w1→Calls Z 98 #[.agg #[J V (fl:Int),J V 2,I a1 n1 c1,I a2 n2 c2]] w1 fun e w'=>Qbn w w' 11 [] e):=fun w1 hb=>(KP.out w1 hb).mono fun _ _ h9=>h9.from hb
  clear KP
  unfold Qbn at KP2 HRZ
  unfold Qdp at KP2 HRZ
  go_enter Tryz.func68,Tryz.ntmps68
  go_wp2_with fail
  refine Qa5 (by kernel_rfl) (by kernel_rfl) ?_
  repeat (go_big_quiet_step (first | (go_at_call 95; with_reducible exact KH.out _ HBA _) | (go_at_call 94; with_reducible exact Qfg _ _ _ _ _ _ _ _ _ _ _)))
  refine wpQuiet_nil ?_
  rintro _ ⟨xq,rfl⟩
  have HB3:Hid (Below w.heap.size w xq.w):=Qb6 HBA.out xq
  have p0:=x0 xq
  have p1:=x1 xq
  have p2:=x2 xq
  have p3:=x3 xq
  clear x0 x1 x2 x3 hne
  generalize xq.w=w3 at *
  have y0:∀ x:Qap w3,x.w.cell? ⟨w.heap.size,0,Q⟩=Y (J V (fl:Int)):=fun x=>x.cell p0
  have y1:∀ x:Qap w3,x.w.cell? ⟨w.heap.size,1,Q⟩=Y (J V 2):=fun x=>x.cell p1
  have y2:∀ x:Qap w3,x.w.cell? ⟨w.heap.size,2,Q⟩=Y (I a1 n1 c1):=fun x=>x.cell p2
  have y3:∀ x:Qap w3,x.w.cell? ⟨w.heap.size,3,Q⟩=Y (I a2 n2 c2):=fun x=>x.cell p3
  have hne:=Qbh w3
  go_wp2_with fail
  refine Qa5 (by kernel_rfl) (by kernel_rfl) ?_
  repeat (go_big_quiet_step (first | (go_at_call 96; with_reducible exact KF.out _ HB3 _) | (go_at_call 94; with_reducible exact Qfg _ _ _ _ _ _ _ _ _ _ _)))
  refine wpQuiet_nil ?_
  rintro _ ⟨xr,rfl⟩
  have HB4:Hid (Below w.heap.size w xr.w):=Qb6 HB3.out xr
  have q0:=y0 xr
  have q1:=y1 xr
  have q2:=y2 xr
  have q3:=y3 xr
  clear y0 y1 y2 y3 hne p0 p1 p2 p3
  generalize xr.w=w4 at *
  clear KH KF HBA HB3
  have hz4:w.heap.size < w4.heap.size:=by have:=T w4 _ q0; simpa using this
  go_wp2_with fail
  refine (KP2.out _ HB4.out).mono ?_
  rintro e w5 ⟨a9,c9,rfl,ho,hb5⟩
  go_wp2
  exact ⟨rfl,HRZ.out _ _ ⟨a9,c9,rfl,ho,hb5⟩⟩
 | some ss =>
  unfold Qh4 at KP
  have HRZ:Hid (∀ w',Box w' X B { a with path:=ss }→Qae (Qa2 X B) w w'→Qcv X B w w' (.inr { a with path:=ss }) (E (.tuple #[]))):=fun w' h8 h9=>⟨rfl,h8,h9⟩
  go_enter Tryz.func68,Tryz.ntmps68
  go_wp2_with fail
  refine Qa5 (by kernel_rfl) (by kernel_rfl) ?_
  repeat (go_big_quiet_step (first | (go_at_call 95; with_reducible exact KH.out _ HBA _) | (go_at_call 94; with_reducible exact Qfg _ _ _ _ _ _ _ _ _ _ _)))
  refine wpQuiet_nil ?_
  rintro _ ⟨xq,rfl⟩
  have HB3:Hid (Below w.heap.size w xq.w):=Qb6 HBA.out xq
  have p0:=x0 xq
  have p1:=x1 xq
  have p2:=x2 xq
  have p3:=x3 xq
  clear x0 x1 x2 x3 hne
  generalize xq.w=w3 at *
  have y0:∀ x:Qap w3,x.w.cell? ⟨w.heap.size,0,Q⟩=Y (J V (fl:Int)):=fun x=>x.cell p0
  have y1:∀ x:Qap w3,x.w.cell? ⟨w.heap.size,1,Q⟩=Y (J V 2):=fun x=>x.cell p1
  have y2:∀ x:Qap w3,x.w.cell? ⟨w.heap.size,2,Q⟩=Y (I a1 n1 c1):=fun x=>x.cell p2
  have y3:∀ x:Qap w3,x.w.cell? ⟨w.heap.size,3,Q⟩=Y (I a2 n2 c2):=fun x=>x.cell p3
  have hne:=Qbh w3
  go_wp2_with fail
  refine Qa5 (by kernel_rfl) (by kernel_rfl) ?_
  repeat (go_big_quiet_step (first | (go_at_call 96; with_reducible exact KF.out _ HB3 _) | (go_at_call 94; with_reducible exact Qfg _ _ _ _ _ _ _ _ _ _ _)))
  refine wpQuiet_nil ?_
  rintro _ ⟨xr,rfl⟩
  have HB4:Hid (Below w.heap.size w xr.w):=Qb6 HB3.out xr
  have q0:=y0 xr
  have q1:=y1 xr
  have q2:=y2 xr
  have q3:=y3 xr
  clear y0 y1 y2 y3 hne p0 p1 p2 p3
  generalize xr.w=w4 at *
  clear KH KF HBA HB3
  have hz4:w.heap.size < w4.heap.size:=by have:=T w4 _ q0; simpa using this
  go_wp2_with fail
  refine (KP.out _ HB4.out).mono ?_
  rintro e w5 ⟨v5,rfl,ho,hb5⟩
  obtain ⟨p5,k5,e5⟩:=Qg1 ho
  subst e5
  have HX5:=Qaa (HX.out.later (HB4.out.trans (hb5.mono HB4.out.size)))
  obtain ⟨p1,k1,r1,_⟩:=HX5.out.c1
  have f1:=HX5.out.fz 1
  have HX6:Hid (Box (w5.setCell ⟨X,1,Q⟩ (I p5 ss.length k5)) X B { a with path:=ss }):=HX5.out.set 1 _ rfl ⟨p5,k5,rfl,ho.base (Nat.le_trans hB HB4.out.size)⟩ rfl rfl rfl rfl rfl
  have HK6:Hid (Qae (Qa2 X B) w (w5.setCell ⟨X,1,Q⟩ (I p5 ss.length k5))):=(Qat (HB4.out.trans (hb5.mono HB4.out.size))).setCell X 1 _ (.inl (.inl rfl))
  clear ho hb5
  generalize ss.length=sl at *
  go_wp2
  go_end0
  exact HRZ.out _ HX6.out HK6.out
