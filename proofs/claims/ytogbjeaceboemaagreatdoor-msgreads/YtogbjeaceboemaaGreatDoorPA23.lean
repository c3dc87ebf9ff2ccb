import Derived.Test.YtogbjeaceboemaaGreatDoorPA20
import Derived.Test.YtogbjeaceboemaaGreatDoorPA6
namespace Go.Proofs.YtogbjeaceboemaaGreatDoor
open Go.RowKit
set_option maxRecDepth 100000
theorem refuse_not (fl ty s:Int)(a1:Option Addr)(n1 c1:Nat)(a2:Option Addr)(c2:Nat)(d:List Nat)(w0 w:World)(hl:d.length≤100000)(h:BRd w0 a2 d)(hb:Below w0.heap.size w0 w) :
  Calls Tryz.prog 97 #[.agg #[.int .i64 fl,.int .i64 ty,.slice a1 n1 c1,.slice a2 d.length c2],.bool false,.int .i64 s] w fun e w'=>Throws w0 w' s d e :=
 (refuse_no fl ty s a1 n1 c1 a2 c2 d w hl (h.below hb)).mono fun _ _ h9=>h9.from hb
theorem hasFlags_to (fl ty:Nat)(a1:Option Addr)(n1 c1:Nat)(a2:Option Addr)(n2 c2:Nat)(w0 w:World)(hS:Said w0)(hf:fl < 256)(h1:1≤ty)(h8:ty≤8)(v:Bool)(hv:flagsOk fl ty=v)(hb:Below w0.heap.size w0 w) :
  Calls Tryz.prog 98 #[.agg #[.int .i64 (fl:Int),.int .i64 (ty:Int),.slice a1 n1 c1,.slice a2 n2 c2]] w fun e w'=>e=.returned (.bool v)∧Below w.heap.size w w'∧Below w0.heap.size w0 w' :=
 (hasFlags_any fl ty a1 n1 c1 a2 n2 c2 w (hS.below hb) hf h1 h8).mono fun _ _ ⟨g1,g2⟩=>⟨by rw [g1,hv],g2,hb.trans (g2.mono hb.size)⟩
theorem fits_to (k n:Nat)(w0 w:World)(hS:Said w0)(h1:1≤k)(h8:k≤8)(hn:n≤1000000)(v:Bool)(hv:fitsB k n=v)(hb:Below w0.heap.size w0 w):Calls Tryz.prog 99 #[.int .i64 (k:Int),.int .i64 (n:Int)] w fun e w'=>e=.returned (.bool v)∧w'=w :=
 (fits_any k n w (hS.below hb) h1 h8 hn).mono fun _ _ ⟨g1,g2⟩=>⟨by rw [g1,hv],g2⟩
set_option maxHeartbeats 800000 in
theorem into_unk_ret (fl ty:Nat)(a1:Option Addr)(n1 c1:Nat)(a2:Option Addr)(n2 c2:Nat)(X:Nat)(w:World)(R:World→Prop)(hty:ty=0∨8 < ty)
  (K:∀ w1,Below w.heap.size w w1→Calls Tryz.prog 96 #[partV (fl:Int) (ty:Int) a1 n1 c1 a2 n2 c2,.pointer (some ⟨X,0,none⟩)] w1 fun e w'=>e=.returned (.tuple #[])∧R w') :
  Calls Tryz.prog 71 #[partV (fl:Int) (ty:Int) a1 n1 c1 a2 n2 c2,.pointer (some ⟨X,0,none⟩)] w fun e w'=>e=.returned (.tuple #[])∧R w':=by
 have HK:=hide K
 clear K
 unfold partV at HK ⊢
 rcases hty with rfl | h
 ·go_enter Tryz.func71,Tryz.ntmps71
  go_wp2_with fail
  refine (HK.out _ ((Below.refl _ _).alloc (Nat.le_refl _) _)).mono ?_
  rintro e w1 ⟨rfl,hr⟩
  have HR:=hide hr
  clear hr
  go_wp2
  refine bodyPost_ret (results_none rfl _ _ _) rfl ?_
  exact ⟨rfl,HR.out⟩
 ·have d1:decide ((ty:Int) < 1)=false:=decide_eq_false (by omega)
  have d8:(8:Int) < (ty:Int):=by omega
  go_enter Tryz.func71,Tryz.ntmps71
  go_wp2_with fail
  refine (HK.out _ ((Below.refl _ _).alloc (Nat.le_refl _) _)).mono ?_
  rintro e w1 ⟨rfl,hr⟩
  have HR:=hide hr
  clear hr
  go_wp2
  refine bodyPost_ret (results_none rfl _ _ _) rfl ?_
  exact ⟨rfl,HR.out⟩
set_option maxHeartbeats 800000 in
theorem into_unk_throw (fl ty:Nat)(a1:Option Addr)(n1 c1:Nat)(a2:Option Addr)(n2 c2:Nat)(X:Nat)(w:World)(s:Int)(d:List Nat)(hty:ty=0∨8 < ty)
  (K:∀ w1,Below w.heap.size w w1→Calls Tryz.prog 96 #[partV (fl:Int) (ty:Int) a1 n1 c1 a2 n2 c2,.pointer (some ⟨X,0,none⟩)] w1 fun e w'=>Throws w1 w' s d e) :
  Calls Tryz.prog 71 #[partV (fl:Int) (ty:Int) a1 n1 c1 a2 n2 c2,.pointer (some ⟨X,0,none⟩)] w fun e w'=>Throws w w' s d e:=by
 have HK:Hid (∀ w1,Below w.heap.size w w1→Calls Tryz.prog 96 #[partV (fl:Int) (ty:Int) a1 n1 c1 a2 n2 c2,.pointer (some ⟨X,0,none⟩)] w1 fun e w'=>Throws w w' s d e):=fun w1 hb=>(K w1 hb).mono fun _ _ h9=>h9.from hb
 clear K
 unfold partV at HK ⊢
 unfold Throws at HK ⊢
 unfold thrown at HK ⊢
 rcases hty with rfl | h
 ·go_enter Tryz.func71,Tryz.ntmps71
  go_wp2_with fail
  refine (HK.out _ ((Below.refl _ _).alloc (Nat.le_refl _) _)).mono ?_
  rintro e w1 ⟨a9,c9,rfl,ho,hb⟩
  go_wp2
  exact ⟨rfl,a9,c9,rfl,ho,hb⟩
 ·have d1:decide ((ty:Int) < 1)=false:=decide_eq_false (by omega)
  have d8:(8:Int) < (ty:Int):=by omega
  go_enter Tryz.func71,Tryz.ntmps71
  go_wp2_with fail
  refine (HK.out _ ((Below.refl _ _).alloc (Nat.le_refl _) _)).mono ?_
  rintro e w1 ⟨a9,c9,rfl,ho,hb⟩
  go_wp2
  exact ⟨rfl,a9,c9,rfl,ho,hb⟩
theorem later_up {w0 w:World}(hb:Below w0.heap.size w0 w)(x:Later w):Below w0.heap.size w0 x.w:=hb.trans (x.h.mono hb.size)
set_option maxHeartbeats 1600000 in
theorem into_flags (fl ty:Nat)(a1:Option Addr)(n1 c1:Nat)(a2:Option Addr)(c2:Nat)(all:List Nat)(X:Nat)(w:World)(hS:Said w)(hf:fl < 256)(h1:1≤ty)(h8:ty≤8)(hv:flagsOk fl ty=false)(hl:all.length≤100000)(h:BRd w a2 all) :
  Calls Tryz.prog 71 #[partV (fl:Int) (ty:Int) a1 n1 c1 a2 all.length c2,.pointer (some ⟨X,0,none⟩)] w fun e w'=>Throws w w' 4 all e:=by
 have hba:Below w.heap.size w (w.alloc (.cells #[.int .i64 (fl:Int),.int .i64 (ty:Int),.slice a1 n1 c1,.slice a2 all.length c2] 124)):=(Below.refl _ _).alloc (Nat.le_refl _) _
 have KH:Hid (∀ x:Later (w.alloc (.cells #[.int .i64 (fl:Int),.int .i64 (ty:Int),.slice a1 n1 c1,.slice a2 all.length c2] 124)),Calls Tryz.prog 98 #[.agg #[.int .i64 (fl:Int),.int .i64 (ty:Int),.slice a1 n1 c1,.slice a2 all.length c2]] x.w fun e w'=>e=.returned (.bool false)∧∃ y:Later (w.alloc (.cells #[.int .i64 (fl:Int),.int .i64 (ty:Int),.slice a1 n1 c1,.slice a2 all.length c2] 124)),w'=y.w):=fun x=>calls_later x ((hasFlags_to fl ty a1 n1 c1 a2 all.length c2 w x.w hS hf h1 h8 false hv (later_up hba x)).mono fun _ _ h9=>⟨h9.1,h9.2.1⟩)
 have KR:Hid (∀ x:Later (w.alloc (.cells #[.int .i64 (fl:Int),.int .i64 (ty:Int),.slice a1 n1 c1,.slice a2 all.length c2] 124)),Calls Tryz.prog 97 #[.agg #[.int .i64 (fl:Int),.int .i64 (ty:Int),.slice a1 n1 c1,.slice a2 all.length c2],.bool false,.int .i64 4] x.w fun e w'=>Throws w w' 4 all e):=fun x=>refuse_not _ _ 4 a1 n1 c1 a2 c2 all w x.w hl h (later_up hba x)
 have d1:decide ((ty:Int) < 1)=false:=decide_eq_false (by omega)
 have d8:decide ((8:Int) < (ty:Int))=false:=decide_eq_false (by omega)
 clear hS h hv hba
 unfold partV
 unfold Throws at KR ⊢
 unfold thrown at KR ⊢
 generalize all.length=n2 at *
 have x0:∀ x:Later (w.alloc (.cells #[.int .i64 (fl:Int),.int .i64 (ty:Int),.slice a1 n1 c1,.slice a2 n2 c2] 124)),x.w.cell? ⟨w.heap.size,0,none⟩=some (.int .i64 (fl:Int)):=fun x=>x.cell (by simp [go_sem])
 have x1:∀ x:Later (w.alloc (.cells #[.int .i64 (fl:Int),.int .i64 (ty:Int),.slice a1 n1 c1,.slice a2 n2 c2] 124)),x.w.cell? ⟨w.heap.size,1,none⟩=some (.int .i64 (ty:Int)):=fun x=>x.cell (by simp [go_sem])
 have x2:∀ x:Later (w.alloc (.cells #[.int .i64 (fl:Int),.int .i64 (ty:Int),.slice a1 n1 c1,.slice a2 n2 c2] 124)),x.w.cell? ⟨w.heap.size,2,none⟩=some (.slice a1 n1 c1):=fun x=>x.cell (by simp [go_sem])
 have x3:∀ x:Later (w.alloc (.cells #[.int .i64 (fl:Int),.int .i64 (ty:Int),.slice a1 n1 c1,.slice a2 n2 c2] 124)),x.w.cell? ⟨w.heap.size,3,none⟩=some (.slice a2 n2 c2):=fun x=>x.cell (by simp [go_sem])
 have hne:=later_some (w.alloc (.cells #[.int .i64 (fl:Int),.int .i64 (ty:Int),.slice a1 n1 c1,.slice a2 n2 c2] 124))
 go_enter Tryz.func71,Tryz.ntmps71
 go_wp2_with fail
 refine region_ends (by kernel_rfl) (by kernel_rfl) (fun _ _ d _ _ h=>by cases d <;> exact h) rfl ?_
 simp only [List.dropLast]
 repeat (go_big_quiet_step (first | (go_at_call 98; with_reducible exact KH.out _)))
 refine wpQuiet_nil ?_
 refine ⟨rfl,fun x=>?_⟩
 go_simp
 refine (KR.out x).mono ?_
 rintro e w3 ⟨a9,c9,rfl,ho,hb3⟩
 exact ⟨rfl,a9,c9,rfl,ho,hb3⟩
theorem kh_to (fl ty:Nat)(a1:Option Addr)(n1 c1:Nat)(a2:Option Addr)(n2 c2:Nat)(w:World)(hS:Said w)(hf:fl < 256)(h1:1≤ty)(h8:ty≤8)(v:Bool)(hv:flagsOk fl ty=v)(w1:World)(hb:Hid (Below w.heap.size w w1))(x:Later w1) :
  Calls Tryz.prog 98 #[.agg #[.int .i64 (fl:Int),.int .i64 (ty:Int),.slice a1 n1 c1,.slice a2 n2 c2]] x.w fun e w'=>e=.returned (.bool v)∧∃ y:Later w1,w'=y.w :=
 calls_later x ((hasFlags_to fl ty a1 n1 c1 a2 n2 c2 w x.w hS hf h1 h8 v hv (later_up hb.out x)).mono fun _ _ h9=>⟨h9.1,h9.2.1⟩)
theorem kf_to (k n:Nat)(w:World)(hS:Said w)(h1:1≤k)(h8:k≤8)(hn:n≤1000000)(v:Bool)(hv:fitsB k n=v)(w1:World)(hb:Hid (Below w.heap.size w w1))(x:Later w1) :
  Calls Tryz.prog 99 #[.int .i64 (k:Int),.int .i64 (n:Int)] x.w fun e w'=>e=.returned (.bool v)∧∃ y:Later w1,w'=y.w :=
 calls_same x (fits_to k n w x.w hS h1 h8 hn v hv (later_up hb.out x))
theorem kr_to (fl ty s:Int)(a1:Option Addr)(n1 c1:Nat)(a2:Option Addr)(n2 c2:Nat)(w1:World)(x:Later w1) :
  Calls Tryz.prog 97 #[.agg #[.int .i64 fl,.int .i64 ty,.slice a1 n1 c1,.slice a2 n2 c2],.bool true,.int .i64 s] x.w fun e w'=>e=.returned (.tuple #[])∧∃ y:Later w1,w'=y.w :=
 calls_later x (refuse_yes fl ty s a1 n1 c1 a2 n2 c2 x.w)
set_option maxHeartbeats 3200000 in
theorem into_size (fl ty:Nat)(a1:Option Addr)(n1 c1:Nat)(a2:Option Addr)(c2:Nat)(all:List Nat)(X:Nat)(w:World)(hS:Said w)(hf:fl < 256)(h1:1≤ty)(h8:ty≤8)(hv:flagsOk fl ty=true)(hs:fitsB ty n1=false)(hn:n1≤100000)(hl:all.length≤100000)(h:BRd w a2 all) :
  Calls Tryz.prog 71 #[partV (fl:Int) (ty:Int) a1 n1 c1 a2 all.length c2,.pointer (some ⟨X,0,none⟩)] w fun e w'=>Throws w w' 5 all e:=by
 have KR:Hid (∀ (w1:World) (_:Hid (Below w.heap.size w w1)) (x:Later w1),Calls Tryz.prog 97 #[.agg #[.int .i64 (fl:Int),.int .i64 (ty:Int),.slice a1 n1 c1,.slice a2 all.length c2],.bool false,.int .i64 5] x.w fun e w'=>Throws w w' 5 all e):=fun w1 hb x=>refuse_not _ _ 5 a1 n1 c1 a2 c2 all w x.w hl h (later_up hb.out x)
 have d1:decide ((ty:Int) < 1)=false:=decide_eq_false (by omega)
 have d8:decide ((8:Int) < (ty:Int))=false:=decide_eq_false (by omega)
 unfold partV
 unfold Throws at KR ⊢
 unfold thrown at KR ⊢
 generalize all.length=n2 at *
 have HBA:Hid (Below w.heap.size w (w.alloc (.cells #[.int .i64 (fl:Int),.int .i64 (ty:Int),.slice a1 n1 c1,.slice a2 n2 c2] 124))):=(Below.refl _ _).alloc (Nat.le_refl _) _
 have KH:Hid (∀ (w1:World) (_:Hid (Below w.heap.size w w1)) (x:Later w1),Calls Tryz.prog 98 #[.agg #[.int .i64 (fl:Int),.int .i64 (ty:Int),.slice a1 n1 c1,.slice a2 n2 c2]] x.w fun e w'=>e=.returned (.bool true)∧∃ y:Later w1,w'=y.w):=fun w1 hb x=>kh_to fl ty a1 n1 c1 a2 n2 c2 w hS hf (by omega) (by omega) true hv w1 hb x
 have KF:Hid (∀ (w1:World) (_:Hid (Below w.heap.size w w1)) (x:Later w1),Calls Tryz.prog 99 #[.int .i64 (ty:Int),.int .i64 (n1:Int)] x.w fun e w'=>e=.returned (.bool false)∧∃ y:Later w1,w'=y.w):=fun w1 hb x=>kf_to ty n1 w hS (by omega) (by omega) (by omega) false hs w1 hb x
 have x0:∀ x:Later (w.alloc (.cells #[.int .i64 (fl:Int),.int .i64 (ty:Int),.slice a1 n1 c1,.slice a2 n2 c2] 124)),x.w.cell? ⟨w.heap.size,0,none⟩=some (.int .i64 (fl:Int)):=fun x=>x.cell (by simp [go_sem])
 have x1:∀ x:Later (w.alloc (.cells #[.int .i64 (fl:Int),.int .i64 (ty:Int),.slice a1 n1 c1,.slice a2 n2 c2] 124)),x.w.cell? ⟨w.heap.size,1,none⟩=some (.int .i64 (ty:Int)):=fun x=>x.cell (by simp [go_sem])
 have x2:∀ x:Later (w.alloc (.cells #[.int .i64 (fl:Int),.int .i64 (ty:Int),.slice a1 n1 c1,.slice a2 n2 c2] 124)),x.w.cell? ⟨w.heap.size,2,none⟩=some (.slice a1 n1 c1):=fun x=>x.cell (by simp [go_sem])
 have x3:∀ x:Later (w.alloc (.cells #[.int .i64 (fl:Int),.int .i64 (ty:Int),.slice a1 n1 c1,.slice a2 n2 c2] 124)),x.w.cell? ⟨w.heap.size,3,none⟩=some (.slice a2 n2 c2):=fun x=>x.cell (by simp [go_sem])
 have hne:=later_some (w.alloc (.cells #[.int .i64 (fl:Int),.int .i64 (ty:Int),.slice a1 n1 c1,.slice a2 n2 c2] 124))
 clear hS h hv hs
 go_enter Tryz.func71,Tryz.ntmps71
 go_wp2_with fail
 refine region_later (by kernel_rfl) (by kernel_rfl) ?_
 repeat (go_big_quiet_step (first | (go_at_call 98; with_reducible exact KH.out _ HBA _) | (go_at_call 97; with_reducible exact kr_to _ _ _ _ _ _ _ _ _ _ _)))
 refine wpQuiet_nil ?_
 rintro _ ⟨xq,rfl⟩
 have HB3:Hid (Below w.heap.size w xq.w):=later_up HBA.out xq
 have p0:=x0 xq
 have p1:=x1 xq
 have p2:=x2 xq
 have p3:=x3 xq
 clear x0 x1 x2 x3 hne
 generalize xq.w=w3 at *
 have y0:∀ x:Later w3,x.w.cell? ⟨w.heap.size,0,none⟩=some (.int .i64 (fl:Int)):=fun x=>x.cell p0
 have y1:∀ x:Later w3,x.w.cell? ⟨w.heap.size,1,none⟩=some (.int .i64 (ty:Int)):=fun x=>x.cell p1
 have y2:∀ x:Later w3,x.w.cell? ⟨w.heap.size,2,none⟩=some (.slice a1 n1 c1):=fun x=>x.cell p2
 have y3:∀ x:Later w3,x.w.cell? ⟨w.heap.size,3,none⟩=some (.slice a2 n2 c2):=fun x=>x.cell p3
 have hne:=later_some w3
 go_wp2_with fail
 refine region_ends (by kernel_rfl) (by kernel_rfl) (fun _ _ d _ _ h=>by cases d <;> exact h) rfl ?_
 simp only [List.dropLast]
 repeat (go_big_quiet_step (first | (go_at_call 99; with_reducible exact KF.out _ HB3 _)))
 refine wpQuiet_nil ?_
 refine ⟨rfl,fun x=>?_⟩
 go_simp
 refine (KR.out _ HB3 x).mono ?_
 rintro e w5 ⟨a9,c9,rfl,ho,hb5⟩
 exact ⟨rfl,a9,c9,rfl,ho,hb5⟩
theorem keeps_later {X B:Nat}{w w1:World} (h:Keeps (NotBox X B) w w1) (x:Later w1):Keeps (NotBox X B) w x.w :=
 h.trans (Keeps.of_below x.h (NotBox X B)) (fun _ _ h9=>h9)
theorem refuse_box (fl:Nat)(ty s:Int)(a1:Option Addr)(n1 c1:Nat)(a2:Option Addr)(n2 c2:Nat)(d:List Nat)(X B:Nat){a:At}(w w1:World)(x:Later w1)(hn:d.length=n2)(hl:n2≤100000)(h:BRd w a2 d)(hk:Keeps (NotBox X B) w w1)(hx:Box w1 X B a)(hX:∀ ad,a2=some ad→0 < n2→ad.block < X) :
  Calls Tryz.prog 97 #[.agg #[.int .i64 (fl:Int),.int .i64 ty,.slice a1 n1 c1,.slice a2 n2 c2],.bool false,.int .i64 s] x.w fun e w'=>ThrowsB X B w w' s d e:=by
 subst hn
 have h1:BRd x.w a2 d:=⟨h.1.keeps (keeps_later hk x) (fun ad ha hp h9=>by
  have:=hX ad ha hp
  have:=hx.lt
  rcases h9 with h9 | h9 <;> omega),h.2⟩
 refine (refuse_no (fl:Int) ty s a1 n1 c1 a2 c2 d x.w hl h1).mono ?_
 rintro e w' ⟨a9,c9,he,ho,hb⟩
 have hsz:=(keeps_later hk x).size
 have hxx:=hx.later x.h
 exact ⟨a9,c9,he,own_base ho hsz,(keeps_later hk x).trans (Keeps.of_below hb (NotBox X B)) (fun _ _ h9=>h9),a,hxx.later hb⟩
set_option maxHeartbeats 3200000 in
theorem into_1 (fl y b o:Nat)(c1:Nat)(a2:Option Addr)(c2:Nat)(all:List Nat)(X B:Nat)(a:At)(w:World)(hS:Said w)(hf:fl < 256)(hv:flagsOk fl 1=true)(hy:y < 256)(hc:w.cell? ⟨b,o,none⟩=some (.int .u8 (y:Int)))(hl:all.length≤100000)(h:BRd w a2 all)(hbox:Box w X B a)(hX2:∀ ad,a2=some ad→0 < all.length→ad.block < X) :
  Calls Tryz.prog 71 #[partV (fl:Int) 1 (some ⟨b,o,none⟩) 1 c1 a2 all.length c2,.pointer (some ⟨X,0,none⟩)] w fun e w'=>IntoRes X B w w' (if 2 < y then .inl (3,6,all) else .inr { a with origin:=(y:Int) }) e:=by
 have hs:fitsB 1 1=true:=rfl
 have hX:=hbox.pos
 have KO:Hid (∀ (w1:World) (x:Later w1),Calls Tryz.prog 100 #[.int .i64 (y:Int)] x.w fun e w'=>e=.returned (.bool (decide (y≤2)))∧∃ z:Later w1,w'=z.w):=fun w1 x=>calls_same x ((isOrigin_any (y:Int) x.w).mono fun _ _ h9=>⟨by rw [h9.1,show decide (0≤(y:Int)∧(y:Int)≤2)=decide (y≤2) from by rw [Bool.eq_iff_iff]; simp only [decide_eq_true_eq]; omega],h9.2⟩)
 have HC:=hide hc
 have hbl:=World.block_lt_of_cell? w _ hc
 simp only at hbl
 have HR:=hide h
 have HX:=hide hbox
 clear hc h hbox
 unfold partV
 generalize hr:(if 2 < y then (Sum.inl (3,6,all):Res) else .inr { a with origin:=(y:Int) })=r
 have HRN:Hid (2 < y→∀ e w',ThrowsB X B w w' 6 all e→IntoRes X B w w' r e):=fun h2 e w' h9=>by rw [← hr,if_pos h2]; exact h9
 have HRY:Hid (¬ 2 < y→∀ w',Box w' X B { a with origin:=(y:Int) }→Keeps (NotBox X B) w w'→IntoRes X B w w' r (.returned (.tuple #[]))):=fun h2 w' h8 h9=>by rw [← hr,if_neg h2]; exact ⟨rfl,h8,h9⟩
 clear hr
 generalize hn2:all.length=n2 at *
 generalize ha1:some (⟨b,o,none⟩:Addr)=a1 at *
 have HBA:Hid (Below w.heap.size w (w.alloc (.cells #[.int .i64 (fl:Int),.int .i64 1,.slice a1 1 c1,.slice a2 n2 c2] 124))):=(Below.refl _ _).alloc (Nat.le_refl _) _
 have KH:Hid (∀ (w1:World) (_:Hid (Below w.heap.size w w1)) (x:Later w1),Calls Tryz.prog 98 #[.agg #[.int .i64 (fl:Int),.int .i64 1,.slice a1 1 c1,.slice a2 n2 c2]] x.w fun e w'=>e=.returned (.bool true)∧∃ y:Later w1,w'=y.w):=fun w1 hb x=>kh_to fl 1 a1 1 c1 a2 n2 c2 w hS hf (by omega) (by omega) true hv w1 hb x
 have KF:Hid (∀ (w1:World) (_:Hid (Below w.heap.size w w1)) (x:Later w1),Calls Tryz.prog 99 #[.int .i64 1,.int .i64 1] x.w fun e w'=>e=.returned (.bool true)∧∃ y:Later w1,w'=y.w):=fun w1 hb x=>kf_to 1 1 w hS (by omega) (by omega) (by omega) true hs w1 hb x
 have x0:∀ x:Later (w.alloc (.cells #[.int .i64 (fl:Int),.int .i64 1,.slice a1 1 c1,.slice a2 n2 c2] 124)),x.w.cell? ⟨w.heap.size,0,none⟩=some (.int .i64 (fl:Int)):=fun x=>x.cell (by simp [go_sem])
 have x1:∀ x:Later (w.alloc (.cells #[.int .i64 (fl:Int),.int .i64 1,.slice a1 1 c1,.slice a2 n2 c2] 124)),x.w.cell? ⟨w.heap.size,1,none⟩=some (.int .i64 1):=fun x=>x.cell (by simp [go_sem])
 have x2:∀ x:Later (w.alloc (.cells #[.int .i64 (fl:Int),.int .i64 1,.slice a1 1 c1,.slice a2 n2 c2] 124)),x.w.cell? ⟨w.heap.size,2,none⟩=some (.slice a1 1 c1):=fun x=>x.cell (by simp [go_sem])
 have x3:∀ x:Later (w.alloc (.cells #[.int .i64 (fl:Int),.int .i64 1,.slice a1 1 c1,.slice a2 n2 c2] 124)),x.w.cell? ⟨w.heap.size,3,none⟩=some (.slice a2 n2 c2):=fun x=>x.cell (by simp [go_sem])
 have hne:=later_some (w.alloc (.cells #[.int .i64 (fl:Int),.int .i64 1,.slice a1 1 c1,.slice a2 n2 c2] 124))
 clear hS hv hs
 subst ha1
 go_enter Tryz.func71,Tryz.ntmps71
 go_wp2_with fail
 refine region_later (by kernel_rfl) (by kernel_rfl) ?_
 repeat (go_big_quiet_step (first | (go_at_call 98; with_reducible exact KH.out _ HBA _) | (go_at_call 97; with_reducible exact kr_to _ _ _ _ _ _ _ _ _ _ _)))
 refine wpQuiet_nil ?_
 rintro _ ⟨xq,rfl⟩
 have HB3:Hid (Below w.heap.size w xq.w):=later_up HBA.out xq
 have p0:=x0 xq
 have p1:=x1 xq
 have p2:=x2 xq
 have p3:=x3 xq
 clear x0 x1 x2 x3 hne
 generalize xq.w=w3 at *
 have y0:∀ x:Later w3,x.w.cell? ⟨w.heap.size,0,none⟩=some (.int .i64 (fl:Int)):=fun x=>x.cell p0
 have y1:∀ x:Later w3,x.w.cell? ⟨w.heap.size,1,none⟩=some (.int .i64 1):=fun x=>x.cell p1
 have y2:∀ x:Later w3,x.w.cell? ⟨w.heap.size,2,none⟩=some (.slice (some ⟨b,o,none⟩) 1 c1):=fun x=>x.cell p2
 have y3:∀ x:Later w3,x.w.cell? ⟨w.heap.size,3,none⟩=some (.slice a2 n2 c2):=fun x=>x.cell p3
 have hne:=later_some w3
 go_wp2_with fail
 refine region_later (by kernel_rfl) (by kernel_rfl) ?_
 repeat (go_big_quiet_step (first | (go_at_call 99; with_reducible exact KF.out _ HB3 _) | (go_at_call 97; with_reducible exact kr_to _ _ _ _ _ _ _ _ _ _ _)))
 refine wpQuiet_nil ?_
 rintro _ ⟨xr,rfl⟩
 have HB4:Hid (Below w.heap.size w xr.w):=later_up HB3.out xr
 have q0:=y0 xr
 have q1:=y1 xr
 have q2:=y2 xr
 have q3:=y3 xr
 clear y0 y1 y2 y3 hne p0 p1 p2 p3
 generalize xr.w=w4 at *
 clear KH KF HBA HB3
 have hz4:w.heap.size < w4.heap.size:=by have:=World.block_lt_of_cell? w4 _ q0; simpa using this
 have cy:w4.cell? ⟨b,o,none⟩=some (.int .u8 (y:Int)):=by rw [HB4.out.cell (p:=⟨b,o,none⟩) hbl]; exact HC.out
 have HX4:=hide (HX.out.later HB4.out)
 have r0:=HX4.out.c0
 have f0:=HX4.out.fz 0
 have hX4:X < w4.heap.size:=by omega
 have HX5:Hid (Box (w4.setCell ⟨X,0,none⟩ (.int .i64 (y:Int))) X B { a with origin:=(y:Int) }):=HX4.out.set 0 _ rfl rfl rfl rfl rfl rfl rfl
 have HK5:Hid (Keeps (NotBox X B) w (w4.setCell ⟨X,0,none⟩ (.int .i64 (y:Int)))):=(keeps_box HB4.out).setCell X 0 _ (.inl (.inl rfl))
 go_wp2_with fail
 have e0:∀ x:Later (w4.setCell ⟨X,0,none⟩ (.int .i64 (y:Int))),x.w.cell? ⟨X,0,none⟩=some (.int .i64 (y:Int)):=fun x=>x.cell HX5.out.c0
 have hne0:w.heap.size≠X:=by omega
 have y0:∀ x:Later (w4.setCell ⟨X,0,none⟩ (.int .i64 (y:Int))),x.w.cell? ⟨w.heap.size,0,none⟩=some (.int .i64 (fl:Int)):=fun x=>x.cell (by rw [World.cell?_setCell_other _ _ _ _ (by intro e9; injection e9 with e2 _ _; exact hne0 e2.symm)]; exact q0)
 have y1:∀ x:Later (w4.setCell ⟨X,0,none⟩ (.int .i64 (y:Int))),x.w.cell? ⟨w.heap.size,1,none⟩=some (.int .i64 1):=fun x=>x.cell (by rw [World.cell?_setCell_other _ _ _ _ (by intro e9; injection e9 with e2 _ _; exact hne0 e2.symm)]; exact q1)
 have y2:∀ x:Later (w4.setCell ⟨X,0,none⟩ (.int .i64 (y:Int))),x.w.cell? ⟨w.heap.size,2,none⟩=some (.slice (some ⟨b,o,none⟩) 1 c1):=fun x=>x.cell (by rw [World.cell?_setCell_other _ _ _ _ (by intro e9; injection e9 with e2 _ _; exact hne0 e2.symm)]; exact q2)
 have y3:∀ x:Later (w4.setCell ⟨X,0,none⟩ (.int .i64 (y:Int))),x.w.cell? ⟨w.heap.size,3,none⟩=some (.slice a2 n2 c2):=fun x=>x.cell (by rw [World.cell?_setCell_other _ _ _ _ (by intro e9; injection e9 with e2 _ _; exact hne0 e2.symm)]; exact q3)
 have hne:=later_some (w4.setCell ⟨X,0,none⟩ (.int .i64 (y:Int)))
 by_cases h2:2 < y
 ·have HRZ:=hide (HRN.out h2)
  have d2:decide (y≤2)=false:=decide_eq_false (by omega)
  have KR:Hid (∀ x:Later (w4.setCell ⟨X,0,none⟩ (.int .i64 (y:Int))),Calls Tryz.prog 97 #[.agg #[.int .i64 (fl:Int),.int .i64 1,.slice (some ⟨b,o,none⟩) 1 c1,.slice a2 n2 c2],.bool false,.int .i64 6] x.w fun e w'=>ThrowsB X B w w' 6 all e):=fun x=>refuse_box fl 1 6 (some ⟨b,o,none⟩) 1 c1 a2 n2 c2 all X B w _ x hn2 hl HR.out HK5.out HX5.out hX2
  rw [d2] at KO
  unfold ThrowsB at KR HRZ
  unfold thrown at KR HRZ
  rw [hn2] at KR HRZ
  clear h2
  refine region_ends (by kernel_rfl) (by kernel_rfl) (fun _ _ d _ _ h=>by cases d <;> exact h) rfl ?_
  simp only [List.dropLast]
  repeat (go_big_quiet_step (first | (go_at_call 100; with_reducible exact KO.out _ _)))
  refine wpQuiet_nil ?_
  refine ⟨rfl,fun x=>?_⟩
  go_simp
  refine (KR.out x).mono ?_
  rintro e w5 ⟨a9,c9,rfl,ho,hb5⟩
  exact ⟨rfl,HRZ.out _ _ ⟨a9,c9,rfl,ho,hb5⟩⟩
 ·have HRZ:=hide (HRY.out h2)
  have d2:decide (y≤2)=true:=decide_eq_true (by omega)
  rw [d2] at KO
  clear h2
  refine region_later (by kernel_rfl) (by kernel_rfl) ?_
  repeat (go_big_quiet_step (first | (go_at_call 100; with_reducible exact KO.out _ _) | (go_at_call 97; with_reducible exact kr_to _ _ _ _ _ _ _ _ _ _ _)))
  refine wpQuiet_nil ?_
  rintro _ ⟨xs,rfl⟩
  have HX6:=hide (HX5.out.later (by simpa using xs.h))
  have HK6:=hide (keeps_later HK5.out xs)
  clear e0 y0 y1 y2 y3 hne HX5 HK5
  generalize xs.w=w6 at *
  go_wp2
  go_end0
  exact HRZ.out _ HX6.out HK6.out
set_option maxHeartbeats 3200000 in
theorem into_2 (fl:Nat)(a1:Option Addr)(c1:Nat)(a2:Option Addr)(n2 c2:Nat)(d:List Nat)(X B:Nat)(a:At)(w:World)(hS:Said w)(hf:fl < 256)(hv:flagsOk fl 2=true)(hd:d.length≤10000)(hdc:d.length≤c1)(hdr:BRd w a1 d)(hbox:Box w X B a)(hB:B≤w.heap.size) :
  Calls Tryz.prog 71 #[partV (fl:Int) 2 a1 d.length c1 a2 n2 c2,.pointer (some ⟨X,0,none⟩)] w fun e w'=>IntoRes X B w w' (match segsRun (fun q=>d.getD q 0) d.length 0 [] with | none=>.inl (3,11,[]) | some p=>.inr { a with path:=p }) e:=by
 have hs:fitsB 2 d.length=true:=decide_eq_true ⟨Nat.zero_le _,by show d.length≤65535; omega,Nat.mod_one _⟩
 have hX:=hbox.pos
 have KP:Hid (∀ (w1:World),Below w.heap.size w w1→Calls Tryz.prog 101 #[.agg #[.int .i64 (fl:Int),.int .i64 2,.slice a1 d.length c1,.slice a2 n2 c2]] w1 fun e w'=>PathRes w1 w' (segsRun (fun q=>d.getD q 0) d.length 0 []) e):=fun w1 hb=>readPath_any (fl:Int) 2 a1 c1 a2 n2 c2 d w1 hd hdc (hdr.below hb)
 have HX:=hide hbox
 clear hbox hdr
 unfold partV
 generalize segsRun (fun q=>d.getD q 0) d.length 0 []=r at *
 generalize hn1:d.length=n1 at *
 clear hn1
 have HBA:Hid (Below w.heap.size w (w.alloc (.cells #[.int .i64 (fl:Int),.int .i64 2,.slice a1 n1 c1,.slice a2 n2 c2] 124))):=(Below.refl _ _).alloc (Nat.le_refl _) _
 have KH:Hid (∀ (w1:World) (_:Hid (Below w.heap.size w w1)) (x:Later w1),Calls Tryz.prog 98 #[.agg #[.int .i64 (fl:Int),.int .i64 2,.slice a1 n1 c1,.slice a2 n2 c2]] x.w fun e w'=>e=.returned (.bool true)∧∃ y:Later w1,w'=y.w):=fun w1 hb x=>kh_to fl 2 a1 n1 c1 a2 n2 c2 w hS hf (by omega) (by omega) true hv w1 hb x
 have KF:Hid (∀ (w1:World) (_:Hid (Below w.heap.size w w1)) (x:Later w1),Calls Tryz.prog 99 #[.int .i64 2,.int .i64 (n1:Int)] x.w fun e w'=>e=.returned (.bool true)∧∃ y:Later w1,w'=y.w):=fun w1 hb x=>kf_to 2 n1 w hS (by omega) (by omega) (by omega) true hs w1 hb x
 have x0:∀ x:Later (w.alloc (.cells #[.int .i64 (fl:Int),.int .i64 2,.slice a1 n1 c1,.slice a2 n2 c2] 124)),x.w.cell? ⟨w.heap.size,0,none⟩=some (.int .i64 (fl:Int)):=fun x=>x.cell (by simp [go_sem])
 have x1:∀ x:Later (w.alloc (.cells #[.int .i64 (fl:Int),.int .i64 2,.slice a1 n1 c1,.slice a2 n2 c2] 124)),x.w.cell? ⟨w.heap.size,1,none⟩=some (.int .i64 2):=fun x=>x.cell (by simp [go_sem])
 have x2:∀ x:Later (w.alloc (.cells #[.int .i64 (fl:Int),.int .i64 2,.slice a1 n1 c1,.slice a2 n2 c2] 124)),x.w.cell? ⟨w.heap.size,2,none⟩=some (.slice a1 n1 c1):=fun x=>x.cell (by simp [go_sem])
 have x3:∀ x:Later (w.alloc (.cells #[.int .i64 (fl:Int),.int .i64 2,.slice a1 n1 c1,.slice a2 n2 c2] 124)),x.w.cell? ⟨w.heap.size,3,none⟩=some (.slice a2 n2 c2):=fun x=>x.cell (by simp [go_sem])
 have hne:=later_some (w.alloc (.cells #[.int .i64 (fl:Int),.int .i64 2,.slice a1 n1 c1,.slice a2 n2 c2] 124))
 clear hS hv hs
 cases r with
 | none =>
  unfold PathRes at KP
  have HRZ:Hid (∀ e w',Throws w w' 11 [] e→IntoRes X B w w' (.inl (3,11,[])) e):=fun e w' h9=>h9.box HX.out
  have KP2:Hid (∀ (w1:World),Below w.heap.size w w1→Calls Tryz.prog 101 #[.agg #[.int .i64 (fl:Int),.int .i64 2,.slice a1 n1 c1,.slice a2 n2 c2]] w1 fun e w'=>Throws w w' 11 [] e):=fun w1 hb=>(KP.out w1 hb).mono fun _ _ h9=>h9.from hb
  clear KP
  unfold Throws at KP2 HRZ
  unfold thrown at KP2 HRZ
  go_enter Tryz.func71,Tryz.ntmps71
  go_wp2_with fail
  refine region_later (by kernel_rfl) (by kernel_rfl) ?_
  repeat (go_big_quiet_step (first | (go_at_call 98; with_reducible exact KH.out _ HBA _) | (go_at_call 97; with_reducible exact kr_to _ _ _ _ _ _ _ _ _ _ _)))
  refine wpQuiet_nil ?_
  rintro _ ⟨xq,rfl⟩
  have HB3:Hid (Below w.heap.size w xq.w):=later_up HBA.out xq
  have p0:=x0 xq
  have p1:=x1 xq
  have p2:=x2 xq
  have p3:=x3 xq
  clear x0 x1 x2 x3 hne
  generalize xq.w=w3 at *
  have y0:∀ x:Later w3,x.w.cell? ⟨w.heap.size,0,none⟩=some (.int .i64 (fl:Int)):=fun x=>x.cell p0
  have y1:∀ x:Later w3,x.w.cell? ⟨w.heap.size,1,none⟩=some (.int .i64 2):=fun x=>x.cell p1
  have y2:∀ x:Later w3,x.w.cell? ⟨w.heap.size,2,none⟩=some (.slice a1 n1 c1):=fun x=>x.cell p2
  have y3:∀ x:Later w3,x.w.cell? ⟨w.heap.size,3,none⟩=some (.slice a2 n2 c2):=fun x=>x.cell p3
  have hne:=later_some w3
  go_wp2_with fail
  refine region_later (by kernel_rfl) (by kernel_rfl) ?_
  repeat (go_big_quiet_step (first | (go_at_call 99; with_reducible exact KF.out _ HB3 _) | (go_at_call 97; with_reducible exact kr_to _ _ _ _ _ _ _ _ _ _ _)))
  refine wpQuiet_nil ?_
  rintro _ ⟨xr,rfl⟩
  have HB4:Hid (Below w.heap.size w xr.w):=later_up HB3.out xr
  have q0:=y0 xr
  have q1:=y1 xr
  have q2:=y2 xr
  have q3:=y3 xr
  clear y0 y1 y2 y3 hne p0 p1 p2 p3
  generalize xr.w=w4 at *
  clear KH KF HBA HB3
  have hz4:w.heap.size < w4.heap.size:=by have:=World.block_lt_of_cell? w4 _ q0; simpa using this
  go_wp2_with fail
  refine (KP2.out _ HB4.out).mono ?_
  rintro e w5 ⟨a9,c9,rfl,ho,hb5⟩
  go_wp2
  exact ⟨rfl,HRZ.out _ _ ⟨a9,c9,rfl,ho,hb5⟩⟩
 | some ss =>
  unfold PathRes at KP
  have HRZ:Hid (∀ w',Box w' X B { a with path:=ss }→Keeps (NotBox X B) w w'→IntoRes X B w w' (.inr { a with path:=ss }) (.returned (.tuple #[]))):=fun w' h8 h9=>⟨rfl,h8,h9⟩
  go_enter Tryz.func71,Tryz.ntmps71
  go_wp2_with fail
  refine region_later (by kernel_rfl) (by kernel_rfl) ?_
  repeat (go_big_quiet_step (first | (go_at_call 98; with_reducible exact KH.out _ HBA _) | (go_at_call 97; with_reducible exact kr_to _ _ _ _ _ _ _ _ _ _ _)))
  refine wpQuiet_nil ?_
  rintro _ ⟨xq,rfl⟩
  have HB3:Hid (Below w.heap.size w xq.w):=later_up HBA.out xq
  have p0:=x0 xq
  have p1:=x1 xq
  have p2:=x2 xq
  have p3:=x3 xq
  clear x0 x1 x2 x3 hne
  generalize xq.w=w3 at *
  have y0:∀ x:Later w3,x.w.cell? ⟨w.heap.size,0,none⟩=some (.int .i64 (fl:Int)):=fun x=>x.cell p0
  have y1:∀ x:Later w3,x.w.cell? ⟨w.heap.size,1,none⟩=some (.int .i64 2):=fun x=>x.cell p1
  have y2:∀ x:Later w3,x.w.cell? ⟨w.heap.size,2,none⟩=some (.slice a1 n1 c1):=fun x=>x.cell p2
  have y3:∀ x:Later w3,x.w.cell? ⟨w.heap.size,3,none⟩=some (.slice a2 n2 c2):=fun x=>x.cell p3
  have hne:=later_some w3
  go_wp2_with fail
  refine region_later (by kernel_rfl) (by kernel_rfl) ?_
  repeat (go_big_quiet_step (first | (go_at_call 99; with_reducible exact KF.out _ HB3 _) | (go_at_call 97; with_reducible exact kr_to _ _ _ _ _ _ _ _ _ _ _)))
  refine wpQuiet_nil ?_
  rintro _ ⟨xr,rfl⟩
  have HB4:Hid (Below w.heap.size w xr.w):=later_up HB3.out xr
  have q0:=y0 xr
  have q1:=y1 xr
  have q2:=y2 xr
  have q3:=y3 xr
  clear y0 y1 y2 y3 hne p0 p1 p2 p3
  generalize xr.w=w4 at *
  clear KH KF HBA HB3
  have hz4:w.heap.size < w4.heap.size:=by have:=World.block_lt_of_cell? w4 _ q0; simpa using this
  go_wp2_with fail
  refine (KP.out _ HB4.out).mono ?_
  rintro e w5 ⟨v5,rfl,ho,hb5⟩
  obtain ⟨p5,k5,e5⟩:=own_path_shape ho
  subst e5
  have HX5:=hide (HX.out.later (HB4.out.trans (hb5.mono HB4.out.size)))
  obtain ⟨p1,k1,r1,_⟩:=HX5.out.c1
  have f1:=HX5.out.fz 1
  have HX6:Hid (Box (w5.setCell ⟨X,1,none⟩ (.slice p5 ss.length k5)) X B { a with path:=ss }):=HX5.out.set 1 _ rfl ⟨p5,k5,rfl,ho.base (Nat.le_trans hB HB4.out.size)⟩ rfl rfl rfl rfl rfl
  have HK6:Hid (Keeps (NotBox X B) w (w5.setCell ⟨X,1,none⟩ (.slice p5 ss.length k5))):=(keeps_box (HB4.out.trans (hb5.mono HB4.out.size))).setCell X 1 _ (.inl (.inl rfl))
  clear ho hb5
  generalize ss.length=sl at *
  go_wp2
  go_end0
  exact HRZ.out _ HX6.out HK6.out
theorem nums_one (b o c:Nat)(f:Nat→Nat)(w:World)(hf:∀ i,i < 4→f i < 256)(hc:∀ i,i < 4→w.cell? ⟨b,o+i,none⟩=some (.int .u8 (f i:Int))) :
  Calls Tryz.prog 102 #[.slice (some ⟨b,o,none⟩) 4 c] w fun e w'=>e=.returned (.slice (some ⟨w.heap.size,0,none⟩) 1 1)∧w'.cell? ⟨w.heap.size,0,none⟩=some (.int .u32 ((num f:Nat):Int))∧Below w.heap.size w w':=by
 refine (numbersU_any b o 1 c f w (by omega) (fun i hi=>hf i (by omega)) (fun i hi=>hc i (by omega))).mono ?_
 rintro e w' ⟨he,ho,hb⟩
 refine ⟨he,?_,hb⟩
 rw [ho.cellAt 0 (by omega)]
 simp [ucells,numsU]
set_option maxHeartbeats 3200000 in
theorem into_4 (fl b o:Nat)(c1:Nat)(a2:Option Addr)(n2 c2:Nat)(f:Nat→Nat)(X B:Nat)(a:At)(w:World)(hS:Said w)(hf:fl < 256)(hv:flagsOk fl 4=true)(hfb:∀ i,i < 4→f i < 256)(hc:∀ i,i < 4→w.cell? ⟨b,o+i,none⟩=some (.int .u8 (f i:Int)))(hbox:Box w X B a) :
  Calls Tryz.prog 71 #[partV (fl:Int) 4 (some ⟨b,o,none⟩) 4 c1 a2 n2 c2,.pointer (some ⟨X,0,none⟩)] w fun e w'=>IntoRes X B w w' (.inr { a with med:=((num f:Nat):Int) }) e:=by
 have hs:fitsB 4 4=true:=rfl
 have hX:=hbox.pos
 have hbl:=World.block_lt_of_cell? w _ (hc 0 (by omega))
 simp only at hbl
 have KN:Hid (∀ (w1:World),Below w.heap.size w w1→Calls Tryz.prog 102 #[.slice (some ⟨b,o,none⟩) 4 c1] w1 fun e w'=>e=.returned (.slice (some ⟨w1.heap.size,0,none⟩) 1 1)∧w'.cell? ⟨w1.heap.size,0,none⟩=some (.int .u32 ((num f:Nat):Int))∧Below w1.heap.size w1 w'):=fun w1 hb=>nums_one b o c1 f w1 hfb (fun i hi=>by rw [hb.cell (p:=⟨b,o+i,none⟩) hbl]; exact hc i hi)
 have HRZ:Hid (∀ w',Box w' X B { a with med:=((num f:Nat):Int) }→Keeps (NotBox X B) w w'→IntoRes X B w w' (.inr { a with med:=((num f:Nat):Int) }) (.returned (.tuple #[]))):=fun w' h8 h9=>⟨rfl,h8,h9⟩
 have hnl:num f < 4294967296:=by
  have:=hfb 0 (by omega); have:=hfb 1 (by omega); have:=hfb 2 (by omega); have:=hfb 3 (by omega)
  unfold num; omega
 have HX:=hide hbox
 clear hbox hc hfb
 unfold partV
 generalize num f=y at *
 generalize ha1:some (⟨b,o,none⟩:Addr)=a1 at *
 have HBA:Hid (Below w.heap.size w (w.alloc (.cells #[.int .i64 (fl:Int),.int .i64 4,.slice a1 4 c1,.slice a2 n2 c2] 124))):=(Below.refl _ _).alloc (Nat.le_refl _) _
 have KH:Hid (∀ (w1:World) (_:Hid (Below w.heap.size w w1)) (x:Later w1),Calls Tryz.prog 98 #[.agg #[.int .i64 (fl:Int),.int .i64 4,.slice a1 4 c1,.slice a2 n2 c2]] x.w fun e w'=>e=.returned (.bool true)∧∃ y:Later w1,w'=y.w):=fun w1 hb x=>kh_to fl 4 a1 4 c1 a2 n2 c2 w hS hf (by omega) (by omega) true hv w1 hb x
 have KF:Hid (∀ (w1:World) (_:Hid (Below w.heap.size w w1)) (x:Later w1),Calls Tryz.prog 99 #[.int .i64 4,.int .i64 4] x.w fun e w'=>e=.returned (.bool true)∧∃ y:Later w1,w'=y.w):=fun w1 hb x=>kf_to 4 4 w hS (by omega) (by omega) (by omega) true hs w1 hb x
 have x0:∀ x:Later (w.alloc (.cells #[.int .i64 (fl:Int),.int .i64 4,.slice a1 4 c1,.slice a2 n2 c2] 124)),x.w.cell? ⟨w.heap.size,0,none⟩=some (.int .i64 (fl:Int)):=fun x=>x.cell (by simp [go_sem])
 have x1:∀ x:Later (w.alloc (.cells #[.int .i64 (fl:Int),.int .i64 4,.slice a1 4 c1,.slice a2 n2 c2] 124)),x.w.cell? ⟨w.heap.size,1,none⟩=some (.int .i64 4):=fun x=>x.cell (by simp [go_sem])
 have x2:∀ x:Later (w.alloc (.cells #[.int .i64 (fl:Int),.int .i64 4,.slice a1 4 c1,.slice a2 n2 c2] 124)),x.w.cell? ⟨w.heap.size,2,none⟩=some (.slice a1 4 c1):=fun x=>x.cell (by simp [go_sem])
 have x3:∀ x:Later (w.alloc (.cells #[.int .i64 (fl:Int),.int .i64 4,.slice a1 4 c1,.slice a2 n2 c2] 124)),x.w.cell? ⟨w.heap.size,3,none⟩=some (.slice a2 n2 c2):=fun x=>x.cell (by simp [go_sem])
 have hne:=later_some (w.alloc (.cells #[.int .i64 (fl:Int),.int .i64 4,.slice a1 4 c1,.slice a2 n2 c2] 124))
 clear hS hv hs
 subst ha1
 go_enter Tryz.func71,Tryz.ntmps71
 go_wp2_with fail
 refine region_later (by kernel_rfl) (by kernel_rfl) ?_
 repeat (go_big_quiet_step (first | (go_at_call 98; with_reducible exact KH.out _ HBA _) | (go_at_call 97; with_reducible exact kr_to _ _ _ _ _ _ _ _ _ _ _)))
 refine wpQuiet_nil ?_
 rintro _ ⟨xq,rfl⟩
 have HB3:Hid (Below w.heap.size w xq.w):=later_up HBA.out xq
 have p0:=x0 xq
 have p1:=x1 xq
 have p2:=x2 xq
 have p3:=x3 xq
 clear x0 x1 x2 x3 hne
 generalize xq.w=w3 at *
 have y0:∀ x:Later w3,x.w.cell? ⟨w.heap.size,0,none⟩=some (.int .i64 (fl:Int)):=fun x=>x.cell p0
 have y1:∀ x:Later w3,x.w.cell? ⟨w.heap.size,1,none⟩=some (.int .i64 4):=fun x=>x.cell p1
 have y2:∀ x:Later w3,x.w.cell? ⟨w.heap.size,2,none⟩=some (.slice (some ⟨b,o,none⟩) 4 c1):=fun x=>x.cell p2
 have y3:∀ x:Later w3,x.w.cell? ⟨w.heap.size,3,none⟩=some (.slice a2 n2 c2):=fun x=>x.cell p3
 have hne:=later_some w3
 go_wp2_with fail
 refine region_later (by kernel_rfl) (by kernel_rfl) ?_
 repeat (go_big_quiet_step (first | (go_at_call 99; with_reducible exact KF.out _ HB3 _) | (go_at_call 97; with_reducible exact kr_to _ _ _ _ _ _ _ _ _ _ _)))
 refine wpQuiet_nil ?_
 rintro _ ⟨xr,rfl⟩
 have HB4:Hid (Below w.heap.size w xr.w):=later_up HB3.out xr
 have q0:=y0 xr
 have q1:=y1 xr
 have q2:=y2 xr
 have q3:=y3 xr
 clear y0 y1 y2 y3 hne p0 p1 p2 p3
 generalize xr.w=w4 at *
 clear KH KF HBA HB3
 have hz4:w.heap.size < w4.heap.size:=by have:=World.block_lt_of_cell? w4 _ q0; simpa using this
 go_wp2_with fail
 refine (KN.out _ HB4.out).mono ?_
 rintro e w5 ⟨rfl,cy,hb5⟩
 have HX5:=hide (HX.out.later (HB4.out.trans (hb5.mono HB4.out.size)))
 have r1:=HX5.out.c3
 have f1:=HX5.out.fz 3
 have HX6:Hid (Box (w5.setCell ⟨X,3,none⟩ (.int .i64 (y:Int))) X B { a with med:=(y:Int) }):=HX5.out.set 3 _ rfl rfl rfl rfl rfl rfl rfl
 have HK6:Hid (Keeps (NotBox X B) w (w5.setCell ⟨X,3,none⟩ (.int .i64 (y:Int)))):=(keeps_box (HB4.out.trans (hb5.mono HB4.out.size))).setCell X 3 _ (.inl (.inl rfl))
 clear hb5
 go_wp2
 go_end0
 exact HRZ.out _ HX6.out HK6.out
set_option maxHeartbeats 3200000 in
theorem into_5 (fl b o:Nat)(c1:Nat)(a2:Option Addr)(n2 c2:Nat)(f:Nat→Nat)(X B:Nat)(a:At)(w:World)(hS:Said w)(hf:fl < 256)(hv:flagsOk fl 5=true)(hfb:∀ i,i < 4→f i < 256)(hc:∀ i,i < 4→w.cell? ⟨b,o+i,none⟩=some (.int .u8 (f i:Int)))(hbox:Box w X B a) :
  Calls Tryz.prog 71 #[partV (fl:Int) 5 (some ⟨b,o,none⟩) 4 c1 a2 n2 c2,.pointer (some ⟨X,0,none⟩)] w fun e w'=>IntoRes X B w w' (.inr { a with pref:=((num f:Nat):Int) }) e:=by
 have hs:fitsB 5 4=true:=rfl
 have hX:=hbox.pos
 have hbl:=World.block_lt_of_cell? w _ (hc 0 (by omega))
 simp only at hbl
 have KN:Hid (∀ (w1:World),Below w.heap.size w w1→Calls Tryz.prog 102 #[.slice (some ⟨b,o,none⟩) 4 c1] w1 fun e w'=>e=.returned (.slice (some ⟨w1.heap.size,0,none⟩) 1 1)∧w'.cell? ⟨w1.heap.size,0,none⟩=some (.int .u32 ((num f:Nat):Int))∧Below w1.heap.size w1 w'):=fun w1 hb=>nums_one b o c1 f w1 hfb (fun i hi=>by rw [hb.cell (p:=⟨b,o+i,none⟩) hbl]; exact hc i hi)
 have HRZ:Hid (∀ w',Box w' X B { a with pref:=((num f:Nat):Int) }→Keeps (NotBox X B) w w'→IntoRes X B w w' (.inr { a with pref:=((num f:Nat):Int) }) (.returned (.tuple #[]))):=fun w' h8 h9=>⟨rfl,h8,h9⟩
 have hnl:num f < 4294967296:=by
  have:=hfb 0 (by omega); have:=hfb 1 (by omega); have:=hfb 2 (by omega); have:=hfb 3 (by omega)
  unfold num; omega
 have HX:=hide hbox
 clear hbox hc hfb
 unfold partV
 generalize num f=y at *
 generalize ha1:some (⟨b,o,none⟩:Addr)=a1 at *
 have HBA:Hid (Below w.heap.size w (w.alloc (.cells #[.int .i64 (fl:Int),.int .i64 5,.slice a1 4 c1,.slice a2 n2 c2] 124))):=(Below.refl _ _).alloc (Nat.le_refl _) _
 have KH:Hid (∀ (w1:World) (_:Hid (Below w.heap.size w w1)) (x:Later w1),Calls Tryz.prog 98 #[.agg #[.int .i64 (fl:Int),.int .i64 5,.slice a1 4 c1,.slice a2 n2 c2]] x.w fun e w'=>e=.returned (.bool true)∧∃ y:Later w1,w'=y.w):=fun w1 hb x=>kh_to fl 5 a1 4 c1 a2 n2 c2 w hS hf (by omega) (by omega) true hv w1 hb x
 have KF:Hid (∀ (w1:World) (_:Hid (Below w.heap.size w w1)) (x:Later w1),Calls Tryz.prog 99 #[.int .i64 5,.int .i64 4] x.w fun e w'=>e=.returned (.bool true)∧∃ y:Later w1,w'=y.w):=fun w1 hb x=>kf_to 5 4 w hS (by omega) (by omega) (by omega) true hs w1 hb x
 have x0:∀ x:Later (w.alloc (.cells #[.int .i64 (fl:Int),.int .i64 5,.slice a1 4 c1,.slice a2 n2 c2] 124)),x.w.cell? ⟨w.heap.size,0,none⟩=some (.int .i64 (fl:Int)):=fun x=>x.cell (by simp [go_sem])
 have x1:∀ x:Later (w.alloc (.cells #[.int .i64 (fl:Int),.int .i64 5,.slice a1 4 c1,.slice a2 n2 c2] 124)),x.w.cell? ⟨w.heap.size,1,none⟩=some (.int .i64 5):=fun x=>x.cell (by simp [go_sem])
 have x2:∀ x:Later (w.alloc (.cells #[.int .i64 (fl:Int),.int .i64 5,.slice a1 4 c1,.slice a2 n2 c2] 124)),x.w.cell? ⟨w.heap.size,2,none⟩=some (.slice a1 4 c1):=fun x=>x.cell (by simp [go_sem])
 have x3:∀ x:Later (w.alloc (.cells #[.int .i64 (fl:Int),.int .i64 5,.slice a1 4 c1,.slice a2 n2 c2] 124)),x.w.cell? ⟨w.heap.size,3,none⟩=some (.slice a2 n2 c2):=fun x=>x.cell (by simp [go_sem])
 have hne:=later_some (w.alloc (.cells #[.int .i64 (fl:Int),.int .i64 5,.slice a1 4 c1,.slice a2 n2 c2] 124))
 clear hS hv hs
 subst ha1
 go_enter Tryz.func71,Tryz.ntmps71
 go_wp2_with fail
 refine region_later (by kernel_rfl) (by kernel_rfl) ?_
 repeat (go_big_quiet_step (first | (go_at_call 98; with_reducible exact KH.out _ HBA _) | (go_at_call 97; with_reducible exact kr_to _ _ _ _ _ _ _ _ _ _ _)))
 refine wpQuiet_nil ?_
 rintro _ ⟨xq,rfl⟩
 have HB3:Hid (Below w.heap.size w xq.w):=later_up HBA.out xq
 have p0:=x0 xq
 have p1:=x1 xq
 have p2:=x2 xq
 have p3:=x3 xq
 clear x0 x1 x2 x3 hne
 generalize xq.w=w3 at *
 have y0:∀ x:Later w3,x.w.cell? ⟨w.heap.size,0,none⟩=some (.int .i64 (fl:Int)):=fun x=>x.cell p0
 have y1:∀ x:Later w3,x.w.cell? ⟨w.heap.size,1,none⟩=some (.int .i64 5):=fun x=>x.cell p1
 have y2:∀ x:Later w3,x.w.cell? ⟨w.heap.size,2,none⟩=some (.slice (some ⟨b,o,none⟩) 4 c1):=fun x=>x.cell p2
 have y3:∀ x:Later w3,x.w.cell? ⟨w.heap.size,3,none⟩=some (.slice a2 n2 c2):=fun x=>x.cell p3
 have hne:=later_some w3
 go_wp2_with fail
 refine region_later (by kernel_rfl) (by kernel_rfl) ?_
 repeat (go_big_quiet_step (first | (go_at_call 99; with_reducible exact KF.out _ HB3 _) | (go_at_call 97; with_reducible exact kr_to _ _ _ _ _ _ _ _ _ _ _)))
 refine wpQuiet_nil ?_
 rintro _ ⟨xr,rfl⟩
 have HB4:Hid (Below w.heap.size w xr.w):=later_up HB3.out xr
 have q0:=y0 xr
 have q1:=y1 xr
 have q2:=y2 xr
 have q3:=y3 xr
 clear y0 y1 y2 y3 hne p0 p1 p2 p3
 generalize xr.w=w4 at *
 clear KH KF HBA HB3
 have hz4:w.heap.size < w4.heap.size:=by have:=World.block_lt_of_cell? w4 _ q0; simpa using this
 go_wp2_with fail
 refine (KN.out _ HB4.out).mono ?_
 rintro e w5 ⟨rfl,cy,hb5⟩
 have HX5:=hide (HX.out.later (HB4.out.trans (hb5.mono HB4.out.size)))
 have r1:=HX5.out.c4
 have f1:=HX5.out.fz 4
 have HX6:Hid (Box (w5.setCell ⟨X,4,none⟩ (.int .i64 (y:Int))) X B { a with pref:=(y:Int) }):=HX5.out.set 4 _ rfl rfl rfl rfl rfl rfl rfl
 have HK6:Hid (Keeps (NotBox X B) w (w5.setCell ⟨X,4,none⟩ (.int .i64 (y:Int)))):=(keeps_box (HB4.out.trans (hb5.mono HB4.out.size))).setCell X 4 _ (.inl (.inl rfl))
 clear hb5
 go_wp2
 go_end0
 exact HRZ.out _ HX6.out HK6.out
set_option maxHeartbeats 3200000 in
theorem into_3 (fl b o:Nat)(c1:Nat)(a2:Option Addr)(c2:Nat)(all:List Nat)(f:Nat→Nat)(X B:Nat)(a:At)(w:World)(hS:Said w)(hf:fl < 256)(hv:flagsOk fl 3=true)(hfb:∀ i,i < 4→f i < 256)(hc:∀ i,i < 4→w.cell? ⟨b,o+i,none⟩=some (.int .u8 (f i:Int)))(hl:all.length≤100000)(h:BRd w a2 all)(hbox:Box w X B a)(hX2:∀ ad,a2=some ad→0 < all.length→ad.block < X) :
  Calls Tryz.prog 71 #[partV (fl:Int) 3 (some ⟨b,o,none⟩) 4 c1 a2 all.length c2,.pointer (some ⟨X,0,none⟩)] w fun e w'=>IntoRes X B w w' (if hopB (num f) then .inr { a with next:=num f } else .inl (3,8,all)) e:=by
 have hs:fitsB 3 4=true:=rfl
 have hX:=hbox.pos
 have hbl:=World.block_lt_of_cell? w _ (hc 0 (by omega))
 simp only at hbl
 have KN:Hid (∀ (w1:World),Below w.heap.size w w1→Calls Tryz.prog 102 #[.slice (some ⟨b,o,none⟩) 4 c1] w1 fun e w'=>e=.returned (.slice (some ⟨w1.heap.size,0,none⟩) 1 1)∧w'.cell? ⟨w1.heap.size,0,none⟩=some (.int .u32 ((num f:Nat):Int))∧Below w1.heap.size w1 w'):=fun w1 hb=>nums_one b o c1 f w1 hfb (fun i hi=>by rw [hb.cell (p:=⟨b,o+i,none⟩) hbl]; exact hc i hi)
 have hnl:num f < 4294967296:=by
  have:=hfb 0 (by omega); have:=hfb 1 (by omega); have:=hfb 2 (by omega); have:=hfb 3 (by omega)
  unfold num; omega
 have KO:Hid (∀ (w1:World) (x:Later w1),Calls Tryz.prog 103 #[.int .u32 ((num f:Nat):Int)] x.w fun e w'=>e=.returned (.bool (hopB (num f)))∧∃ z:Later w1,w'=z.w):=fun w1 x=>calls_same x (isNext_any (num f) x.w hnl)
 have HR:=hide h
 have HX:=hide hbox
 clear hbox hc hfb h
 unfold partV
 generalize num f=y at *
 generalize hr:(if hopB y then (Sum.inr { a with next:=y } : Res) else .inl (3,8,all))=r
 have HRN:Hid (hopB y=false→∀ e w',ThrowsB X B w w' 8 all e→IntoRes X B w w' r e):=fun h2 e w' h9=>by rw [← hr,h2]; exact h9
 have HRY:Hid (hopB y=true→∀ w',Box w' X B { a with next:=y }→Keeps (NotBox X B) w w'→IntoRes X B w w' r (.returned (.tuple #[]))):=fun h2 w' h8 h9=>by rw [← hr,if_pos h2]; exact ⟨rfl,h8,h9⟩
 clear hr
 generalize hn2:all.length=n2 at *
 generalize ha1:some (⟨b,o,none⟩:Addr)=a1 at *
 have HBA:Hid (Below w.heap.size w (w.alloc (.cells #[.int .i64 (fl:Int),.int .i64 3,.slice a1 4 c1,.slice a2 n2 c2] 124))):=(Below.refl _ _).alloc (Nat.le_refl _) _
 have KH:Hid (∀ (w1:World) (_:Hid (Below w.heap.size w w1)) (x:Later w1),Calls Tryz.prog 98 #[.agg #[.int .i64 (fl:Int),.int .i64 3,.slice a1 4 c1,.slice a2 n2 c2]] x.w fun e w'=>e=.returned (.bool true)∧∃ y:Later w1,w'=y.w):=fun w1 hb x=>kh_to fl 3 a1 4 c1 a2 n2 c2 w hS hf (by omega) (by omega) true hv w1 hb x
 have KF:Hid (∀ (w1:World) (_:Hid (Below w.heap.size w w1)) (x:Later w1),Calls Tryz.prog 99 #[.int .i64 3,.int .i64 4] x.w fun e w'=>e=.returned (.bool true)∧∃ y:Later w1,w'=y.w):=fun w1 hb x=>kf_to 3 4 w hS (by omega) (by omega) (by omega) true hs w1 hb x
 have x0:∀ x:Later (w.alloc (.cells #[.int .i64 (fl:Int),.int .i64 3,.slice a1 4 c1,.slice a2 n2 c2] 124)),x.w.cell? ⟨w.heap.size,0,none⟩=some (.int .i64 (fl:Int)):=fun x=>x.cell (by simp [go_sem])
 have x1:∀ x:Later (w.alloc (.cells #[.int .i64 (fl:Int),.int .i64 3,.slice a1 4 c1,.slice a2 n2 c2] 124)),x.w.cell? ⟨w.heap.size,1,none⟩=some (.int .i64 3):=fun x=>x.cell (by simp [go_sem])
 have x2:∀ x:Later (w.alloc (.cells #[.int .i64 (fl:Int),.int .i64 3,.slice a1 4 c1,.slice a2 n2 c2] 124)),x.w.cell? ⟨w.heap.size,2,none⟩=some (.slice a1 4 c1):=fun x=>x.cell (by simp [go_sem])
 have x3:∀ x:Later (w.alloc (.cells #[.int .i64 (fl:Int),.int .i64 3,.slice a1 4 c1,.slice a2 n2 c2] 124)),x.w.cell? ⟨w.heap.size,3,none⟩=some (.slice a2 n2 c2):=fun x=>x.cell (by simp [go_sem])
 have hne:=later_some (w.alloc (.cells #[.int .i64 (fl:Int),.int .i64 3,.slice a1 4 c1,.slice a2 n2 c2] 124))
 clear hS hv hs
 subst ha1
 go_enter Tryz.func71,Tryz.ntmps71
 go_wp2_with fail
 refine region_later (by kernel_rfl) (by kernel_rfl) ?_
 repeat (go_big_quiet_step (first | (go_at_call 98; with_reducible exact KH.out _ HBA _) | (go_at_call 97; with_reducible exact kr_to _ _ _ _ _ _ _ _ _ _ _)))
 refine wpQuiet_nil ?_
 rintro _ ⟨xq,rfl⟩
 have HB3:Hid (Below w.heap.size w xq.w):=later_up HBA.out xq
 have p0:=x0 xq
 have p1:=x1 xq
 have p2:=x2 xq
 have p3:=x3 xq
 clear x0 x1 x2 x3 hne
 generalize xq.w=w3 at *
 have y0:∀ x:Later w3,x.w.cell? ⟨w.heap.size,0,none⟩=some (.int .i64 (fl:Int)):=fun x=>x.cell p0
 have y1:∀ x:Later w3,x.w.cell? ⟨w.heap.size,1,none⟩=some (.int .i64 3):=fun x=>x.cell p1
 have y2:∀ x:Later w3,x.w.cell? ⟨w.heap.size,2,none⟩=some (.slice (some ⟨b,o,none⟩) 4 c1):=fun x=>x.cell p2
 have y3:∀ x:Later w3,x.w.cell? ⟨w.heap.size,3,none⟩=some (.slice a2 n2 c2):=fun x=>x.cell p3
 have hne:=later_some w3
 go_wp2_with fail
 refine region_later (by kernel_rfl) (by kernel_rfl) ?_
 repeat (go_big_quiet_step (first | (go_at_call 99; with_reducible exact KF.out _ HB3 _) | (go_at_call 97; with_reducible exact kr_to _ _ _ _ _ _ _ _ _ _ _)))
 refine wpQuiet_nil ?_
 rintro _ ⟨xr,rfl⟩
 have HB4:Hid (Below w.heap.size w xr.w):=later_up HB3.out xr
 have q0:=y0 xr
 have q1:=y1 xr
 have q2:=y2 xr
 have q3:=y3 xr
 clear y0 y1 y2 y3 hne p0 p1 p2 p3
 generalize xr.w=w4 at *
 clear KH KF HBA HB3
 have hz4:w.heap.size < w4.heap.size:=by have:=World.block_lt_of_cell? w4 _ q0; simpa using this
 go_wp2_with fail
 refine (KN.out _ HB4.out).mono ?_
 rintro e w5 ⟨rfl,cy,hb5⟩
 have HX5:=hide (HX.out.later (HB4.out.trans (hb5.mono HB4.out.size)))
 have r1:=HX5.out.c2
 have f1:=HX5.out.fz 2
 have HX6:Hid (Box (w5.setCell ⟨X,2,none⟩ (.int .u32 (y:Int))) X B { a with next:=y }):=HX5.out.set 2 _ rfl rfl rfl rfl rfl rfl rfl
 have HK6:Hid (Keeps (NotBox X B) w (w5.setCell ⟨X,2,none⟩ (.int .u32 (y:Int)))):=(keeps_box (HB4.out.trans (hb5.mono HB4.out.size))).setCell X 2 _ (.inl (.inl rfl))
 rw [← hb5.cell (p:=⟨w.heap.size,0,none⟩) hz4] at q0
 rw [← hb5.cell (p:=⟨w.heap.size,1,none⟩) hz4] at q1
 rw [← hb5.cell (p:=⟨w.heap.size,2,none⟩) hz4] at q2
 rw [← hb5.cell (p:=⟨w.heap.size,3,none⟩) hz4] at q3
 clear hb5
 go_wp2_with fail
 have e0:∀ x:Later (w5.setCell ⟨X,2,none⟩ (.int .u32 (y:Int))),x.w.cell? ⟨X,2,none⟩=some (.int .u32 (y:Int)):=fun x=>x.cell HX6.out.c2
 have hne0:w.heap.size≠X:=by omega
 have y0:∀ x:Later (w5.setCell ⟨X,2,none⟩ (.int .u32 (y:Int))),x.w.cell? ⟨w.heap.size,0,none⟩=some (.int .i64 (fl:Int)):=fun x=>x.cell (by rw [World.cell?_setCell_other _ _ _ _ (by intro e9; injection e9 with e2 _ _; exact hne0 e2.symm)]; exact q0)
 have y1:∀ x:Later (w5.setCell ⟨X,2,none⟩ (.int .u32 (y:Int))),x.w.cell? ⟨w.heap.size,1,none⟩=some (.int .i64 3):=fun x=>x.cell (by rw [World.cell?_setCell_other _ _ _ _ (by intro e9; injection e9 with e2 _ _; exact hne0 e2.symm)]; exact q1)
 have y2:∀ x:Later (w5.setCell ⟨X,2,none⟩ (.int .u32 (y:Int))),x.w.cell? ⟨w.heap.size,2,none⟩=some (.slice (some ⟨b,o,none⟩) 4 c1):=fun x=>x.cell (by rw [World.cell?_setCell_other _ _ _ _ (by intro e9; injection e9 with e2 _ _; exact hne0 e2.symm)]; exact q2)
 have y3:∀ x:Later (w5.setCell ⟨X,2,none⟩ (.int .u32 (y:Int))),x.w.cell? ⟨w.heap.size,3,none⟩=some (.slice a2 n2 c2):=fun x=>x.cell (by rw [World.cell?_setCell_other _ _ _ _ (by intro e9; injection e9 with e2 _ _; exact hne0 e2.symm)]; exact q3)
 have hne:=later_some (w5.setCell ⟨X,2,none⟩ (.int .u32 (y:Int)))
 cases hh:hopB y with
 | false =>
  have HRZ:=hide (HRN.out hh)
  have KR:Hid (∀ x:Later (w5.setCell ⟨X,2,none⟩ (.int .u32 (y:Int))),Calls Tryz.prog 97 #[.agg #[.int .i64 (fl:Int),.int .i64 3,.slice (some ⟨b,o,none⟩) 4 c1,.slice a2 n2 c2],.bool false,.int .i64 8] x.w fun e w'=>ThrowsB X B w w' 8 all e):=fun x=>refuse_box fl 3 8 (some ⟨b,o,none⟩) 4 c1 a2 n2 c2 all X B w _ x hn2 hl HR.out HK6.out HX6.out hX2
  rw [hh] at KO
  unfold ThrowsB at KR HRZ
  unfold thrown at KR HRZ
  rw [hn2] at KR HRZ
  clear hh
  refine region_ends (by kernel_rfl) (by kernel_rfl) (fun _ _ d _ _ h=>by cases d <;> exact h) rfl ?_
  simp only [List.dropLast]
  repeat (go_big_quiet_step (first | (go_at_call 103; with_reducible exact KO.out _ _)))
  refine wpQuiet_nil ?_
  refine ⟨rfl,fun x=>?_⟩
  go_simp
  refine (KR.out x).mono ?_
  rintro e w7 ⟨a9,c9,rfl,ho,hb7⟩
  exact ⟨rfl,HRZ.out _ _ ⟨a9,c9,rfl,ho,hb7⟩⟩
 | true =>
  have HRZ:=hide (HRY.out hh)
  rw [hh] at KO
  clear hh
  refine region_later (by kernel_rfl) (by kernel_rfl) ?_
  repeat (go_big_quiet_step (first | (go_at_call 103; with_reducible exact KO.out _ _) | (go_at_call 97; with_reducible exact kr_to _ _ _ _ _ _ _ _ _ _ _)))
  refine wpQuiet_nil ?_
  rintro _ ⟨xs,rfl⟩
  have HX7:=hide (HX6.out.later (by simpa using xs.h))
  have HK7:=hide (keeps_later HK6.out xs)
  clear e0 y0 y1 y2 y3 hne HX6 HK6
  generalize xs.w=w7 at *
  go_wp2
  go_end0
  exact HRZ.out _ HX7.out HK7.out
set_option maxHeartbeats 3200000 in
theorem into_8 (fl b o n:Nat)(c1:Nat)(a2:Option Addr)(c2:Nat)(all:List Nat)(f:Nat→Nat)(X B:Nat)(a:At)(w:World)(hS:Said w)(hf:fl < 256)(hv:flagsOk fl 8=true)(hn0:0 < n)(hn:n≤2500)(hfb:∀ i,i < 4 * n→f i < 256)(hc:∀ i,i < 4 * n→w.cell? ⟨b,o+i,none⟩=some (.int .u8 (f i:Int)))(hl:all.length≤100000)(h:BRd w a2 all)(hbox:Box w X B a)(hB:B≤w.heap.size)(hX2:∀ ad,a2=some ad→0 < all.length→ad.block < X) :
  Calls Tryz.prog 71 #[partV (fl:Int) 8 (some ⟨b,o,none⟩) (4 * n) c1 a2 all.length c2,.pointer (some ⟨X,0,none⟩)] w fun e w'=>IntoRes X B w w' (if 32 < n then .inl (3,9,all) else .inr { a with comms:=numsU f n }) e:=by
 have hs:fitsB 8 (4 * n)=true:=decide_eq_true ⟨by show 4≤4 * n; omega,by show 4 * n≤65535; omega,by show 4 * n % 4=0; omega⟩
 have hX:=hbox.pos
 have hbl:=World.block_lt_of_cell? w _ (hc 0 (by omega))
 simp only at hbl
 have KN:Hid (∀ (w1:World),Below w.heap.size w w1→Calls Tryz.prog 102 #[.slice (some ⟨b,o,none⟩) (4 * n) c1] w1 fun e w'=>e=.returned (.slice (some ⟨w1.heap.size,0,none⟩) n n)∧w'.ownsRow w1.heap.size 24 1 (.slice (some ⟨w1.heap.size,0,none⟩) n n) n (ucells (numsU f n))∧Below w1.heap.size w1 w'):=fun w1 hb=>numbersU_any b o n c1 f w1 (by omega) hfb (fun i hi=>by rw [hb.cell (p:=⟨b,o+i,none⟩) hbl]; exact hc i hi)
 have HLN:=hide (numsU_length f n)
 have HR:=hide h
 have HX:=hide hbox
 clear hbox hc hfb h
 unfold partV
 generalize numsU f n=cs at *
 generalize hr:(if 32 < n then (Sum.inl (3,9,all):Res) else .inr { a with comms:=cs })=r
 have HRN:Hid (32 < n→∀ e w',ThrowsB X B w w' 9 all e→IntoRes X B w w' r e):=fun h2 e w' h9=>by rw [← hr,if_pos h2]; exact h9
 have HRY:Hid (¬ 32 < n→∀ w',Box w' X B { a with comms:=cs }→Keeps (NotBox X B) w w'→IntoRes X B w w' r (.returned (.tuple #[]))):=fun h2 w' h8 h9=>by rw [← hr,if_neg h2]; exact ⟨rfl,h8,h9⟩
 clear hr
 generalize hn2:all.length=n2 at *
 generalize ha1:some (⟨b,o,none⟩:Addr)=a1 at *
 generalize hm:4 * n=n1 at *
 have HBA:Hid (Below w.heap.size w (w.alloc (.cells #[.int .i64 (fl:Int),.int .i64 8,.slice a1 n1 c1,.slice a2 n2 c2] 124))):=(Below.refl _ _).alloc (Nat.le_refl _) _
 have KH:Hid (∀ (w1:World) (_:Hid (Below w.heap.size w w1)) (x:Later w1),Calls Tryz.prog 98 #[.agg #[.int .i64 (fl:Int),.int .i64 8,.slice a1 n1 c1,.slice a2 n2 c2]] x.w fun e w'=>e=.returned (.bool true)∧∃ y:Later w1,w'=y.w):=fun w1 hb x=>kh_to fl 8 a1 n1 c1 a2 n2 c2 w hS hf (by omega) (by omega) true hv w1 hb x
 have KF:Hid (∀ (w1:World) (_:Hid (Below w.heap.size w w1)) (x:Later w1),Calls Tryz.prog 99 #[.int .i64 8,.int .i64 (n1:Int)] x.w fun e w'=>e=.returned (.bool true)∧∃ y:Later w1,w'=y.w):=fun w1 hb x=>kf_to 8 n1 w hS (by omega) (by omega) (by omega) true hs w1 hb x
 have x0:∀ x:Later (w.alloc (.cells #[.int .i64 (fl:Int),.int .i64 8,.slice a1 n1 c1,.slice a2 n2 c2] 124)),x.w.cell? ⟨w.heap.size,0,none⟩=some (.int .i64 (fl:Int)):=fun x=>x.cell (by simp [go_sem])
 have x1:∀ x:Later (w.alloc (.cells #[.int .i64 (fl:Int),.int .i64 8,.slice a1 n1 c1,.slice a2 n2 c2] 124)),x.w.cell? ⟨w.heap.size,1,none⟩=some (.int .i64 8):=fun x=>x.cell (by simp [go_sem])
 have x2:∀ x:Later (w.alloc (.cells #[.int .i64 (fl:Int),.int .i64 8,.slice a1 n1 c1,.slice a2 n2 c2] 124)),x.w.cell? ⟨w.heap.size,2,none⟩=some (.slice a1 n1 c1):=fun x=>x.cell (by simp [go_sem])
 have x3:∀ x:Later (w.alloc (.cells #[.int .i64 (fl:Int),.int .i64 8,.slice a1 n1 c1,.slice a2 n2 c2] 124)),x.w.cell? ⟨w.heap.size,3,none⟩=some (.slice a2 n2 c2):=fun x=>x.cell (by simp [go_sem])
 have hne:=later_some (w.alloc (.cells #[.int .i64 (fl:Int),.int .i64 8,.slice a1 n1 c1,.slice a2 n2 c2] 124))
 clear hS hv hs
 subst ha1
 clear hm
 go_enter Tryz.func71,Tryz.ntmps71
 go_wp2_with fail
 refine region_later (by kernel_rfl) (by kernel_rfl) ?_
 repeat (go_big_quiet_step (first | (go_at_call 98; with_reducible exact KH.out _ HBA _) | (go_at_call 97; with_reducible exact kr_to _ _ _ _ _ _ _ _ _ _ _)))
 refine wpQuiet_nil ?_
 rintro _ ⟨xq,rfl⟩
 have HB3:Hid (Below w.heap.size w xq.w):=later_up HBA.out xq
 have p0:=x0 xq
 have p1:=x1 xq
 have p2:=x2 xq
 have p3:=x3 xq
 clear x0 x1 x2 x3 hne
 generalize xq.w=w3 at *
 have y0:∀ x:Later w3,x.w.cell? ⟨w.heap.size,0,none⟩=some (.int .i64 (fl:Int)):=fun x=>x.cell p0
 have y1:∀ x:Later w3,x.w.cell? ⟨w.heap.size,1,none⟩=some (.int .i64 8):=fun x=>x.cell p1
 have y2:∀ x:Later w3,x.w.cell? ⟨w.heap.size,2,none⟩=some (.slice (some ⟨b,o,none⟩) n1 c1):=fun x=>x.cell p2
 have y3:∀ x:Later w3,x.w.cell? ⟨w.heap.size,3,none⟩=some (.slice a2 n2 c2):=fun x=>x.cell p3
 have hne:=later_some w3
 go_wp2_with fail
 refine region_later (by kernel_rfl) (by kernel_rfl) ?_
 repeat (go_big_quiet_step (first | (go_at_call 99; with_reducible exact KF.out _ HB3 _) | (go_at_call 97; with_reducible exact kr_to _ _ _ _ _ _ _ _ _ _ _)))
 refine wpQuiet_nil ?_
 rintro _ ⟨xr,rfl⟩
 have HB4:Hid (Below w.heap.size w xr.w):=later_up HB3.out xr
 have q0:=y0 xr
 have q1:=y1 xr
 have q2:=y2 xr
 have q3:=y3 xr
 clear y0 y1 y2 y3 hne p0 p1 p2 p3
 generalize xr.w=w4 at *
 clear KH KF HBA HB3
 have hz4:w.heap.size < w4.heap.size:=by have:=World.block_lt_of_cell? w4 _ q0; simpa using this
 go_wp2_with fail
 refine (KN.out _ HB4.out).mono ?_
 rintro e w5 ⟨rfl,ho5,hb5⟩
 have HX5:=hide (HX.out.later (HB4.out.trans (hb5.mono HB4.out.size)))
 obtain ⟨p5,k5,r5,_⟩:=HX5.out.c5
 have f5:=HX5.out.fz 5
 have HX6:Hid (Box (w5.setCell ⟨X,5,none⟩ (.slice (some ⟨w4.heap.size,0,none⟩) n n)) X B { a with comms:=cs }):=HX5.out.set 5 _ rfl rfl rfl rfl rfl ⟨_,_,by rw [HLN.out],by rw [HLN.out]; exact own_base ho5 (Nat.le_trans hB HB4.out.size)⟩ rfl
 have HK6:Hid (Keeps (NotBox X B) w (w5.setCell ⟨X,5,none⟩ (.slice (some ⟨w4.heap.size,0,none⟩) n n))):=(keeps_box (HB4.out.trans (hb5.mono HB4.out.size))).setCell X 5 _ (.inl (.inl rfl))
 rw [← hb5.cell (p:=⟨w.heap.size,0,none⟩) hz4] at q0
 rw [← hb5.cell (p:=⟨w.heap.size,1,none⟩) hz4] at q1
 rw [← hb5.cell (p:=⟨w.heap.size,2,none⟩) hz4] at q2
 rw [← hb5.cell (p:=⟨w.heap.size,3,none⟩) hz4] at q3
 have e5:(w5.setCell ⟨X,5,none⟩ (.slice (some ⟨w4.heap.size,0,none⟩) n n)).cell? ⟨X,5,none⟩=some (.slice (some ⟨w4.heap.size,0,none⟩) n n):=World.cell?_setCell_same _ _ _ r5
 have HE5:=hide e5
 clear hb5 ho5 e5
 go_wp2_with fail
 have e0:∀ x:Later (w5.setCell ⟨X,5,none⟩ (.slice (some ⟨w4.heap.size,0,none⟩) n n)),x.w.cell? ⟨X,5,none⟩=some (.slice (some ⟨w4.heap.size,0,none⟩) n n):=fun x=>x.cell HE5.out
 have hne0:w.heap.size≠X:=by omega
 have y0:∀ x:Later (w5.setCell ⟨X,5,none⟩ (.slice (some ⟨w4.heap.size,0,none⟩) n n)),x.w.cell? ⟨w.heap.size,0,none⟩=some (.int .i64 (fl:Int)):=fun x=>x.cell (by rw [World.cell?_setCell_other _ _ _ _ (by intro e9; injection e9 with e2 _ _; exact hne0 e2.symm)]; exact q0)
 have y1:∀ x:Later (w5.setCell ⟨X,5,none⟩ (.slice (some ⟨w4.heap.size,0,none⟩) n n)),x.w.cell? ⟨w.heap.size,1,none⟩=some (.int .i64 8):=fun x=>x.cell (by rw [World.cell?_setCell_other _ _ _ _ (by intro e9; injection e9 with e2 _ _; exact hne0 e2.symm)]; exact q1)
 have y2:∀ x:Later (w5.setCell ⟨X,5,none⟩ (.slice (some ⟨w4.heap.size,0,none⟩) n n)),x.w.cell? ⟨w.heap.size,2,none⟩=some (.slice (some ⟨b,o,none⟩) n1 c1):=fun x=>x.cell (by rw [World.cell?_setCell_other _ _ _ _ (by intro e9; injection e9 with e2 _ _; exact hne0 e2.symm)]; exact q2)
 have y3:∀ x:Later (w5.setCell ⟨X,5,none⟩ (.slice (some ⟨w4.heap.size,0,none⟩) n n)),x.w.cell? ⟨w.heap.size,3,none⟩=some (.slice a2 n2 c2):=fun x=>x.cell (by rw [World.cell?_setCell_other _ _ _ _ (by intro e9; injection e9 with e2 _ _; exact hne0 e2.symm)]; exact q3)
 have hne:=later_some (w5.setCell ⟨X,5,none⟩ (.slice (some ⟨w4.heap.size,0,none⟩) n n))
 by_cases h2:32 < n
 ·have HRZ:=hide (HRN.out h2)
  have d2:decide ((n:Int)≤32)=false:=decide_eq_false (by omega)
  have KR:Hid (∀ x:Later (w5.setCell ⟨X,5,none⟩ (.slice (some ⟨w4.heap.size,0,none⟩) n n)),Calls Tryz.prog 97 #[.agg #[.int .i64 (fl:Int),.int .i64 8,.slice (some ⟨b,o,none⟩) n1 c1,.slice a2 n2 c2],.bool false,.int .i64 9] x.w fun e w'=>ThrowsB X B w w' 9 all e):=fun x=>refuse_box fl 8 9 (some ⟨b,o,none⟩) n1 c1 a2 n2 c2 all X B w _ x hn2 hl HR.out HK6.out HX6.out hX2
  unfold ThrowsB at KR HRZ
  unfold thrown at KR HRZ
  rw [hn2] at KR HRZ
  clear h2
  refine region_ends (by kernel_rfl) (by kernel_rfl) (fun _ _ d _ _ h=>by cases d <;> exact h) rfl ?_
  simp only [List.dropLast]
  repeat (go_big_quiet_step (fail))
  refine wpQuiet_nil ?_
  refine ⟨rfl,fun x=>?_⟩
  go_simp
  refine (KR.out x).mono ?_
  rintro e w7 ⟨a9,c9,rfl,ho,hb7⟩
  exact ⟨rfl,HRZ.out _ _ ⟨a9,c9,rfl,ho,hb7⟩⟩
 ·have HRZ:=hide (HRY.out h2)
  have d2:(n:Int)≤32:=by omega
  clear h2
  refine region_later (by kernel_rfl) (by kernel_rfl) ?_
  repeat (go_big_quiet_step (first | (go_at_call 97; with_reducible exact kr_to _ _ _ _ _ _ _ _ _ _ _)))
  refine wpQuiet_nil ?_
  rintro _ ⟨xs,rfl⟩
  have HX7:=hide (HX6.out.later (by simpa using xs.h))
  have HK7:=hide (keeps_later HK6.out xs)
  clear e0 y0 y1 y2 y3 hne HX6 HK6 HE5
  generalize xs.w=w7 at *
  go_wp2
  go_end0
  exact HRZ.out _ HX7.out HK7.out
end Go.Proofs.YtogbjeaceboemaaGreatDoor
