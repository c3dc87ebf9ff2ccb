import Derived.Test.YtogbjeaceboemaaGreatDoorPA23
import Derived.Test.YtogbjeaceboemaaGreatDoorPA21
namespace Go.Proofs.YtogbjeaceboemaaGreatDoor
open Go.RowKit
set_option maxRecDepth 100000
section
attribute [local go_sem ↓] Go.wp_at_zero Go.wp_at_succ kept_appendR
set_option maxHeartbeats 3200000 in
theorem into_67 (fl ty:Nat)(a1:Option Addr)(c1:Nat)(a2:Option Addr)(n2 c2:Nat)(d:List Nat)(X B:Nat)(a:At)(w:World)(hS:Said w)(hf:fl < 256)(hty:ty=6∨ty=7)(hv:flagsOk fl ty=true)(hs:fitsB ty d.length=true)(hd:d.length≤255)(hdr:BRd w a1 d)(hbox:Box w X B a)(hB:B≤w.heap.size)(hl:a.raws.length≤10000) :
    Calls Tryz.prog 71 #[partV (fl:Int) (ty:Int) a1 d.length c1 a2 n2 c2,.pointer (some ⟨X,0,none⟩)] w fun e w'=>IntoRes X B w w' (.inr { a with raws:=a.raws++[(((flagN ty:Nat):Int),(ty:Int),d)] }) e:=by
  have hX:=hbox.pos
  have hXB:=hbox.lt
  have KC:Hid (∀ w1,Below w.heap.size w w1→Calls Tryz.prog 60 #[.slice a1 d.length c1] w1 fun e w'=>∃ a9 c9,e=.returned (.slice a9 d.length c9)∧w'.ownsRow w1.heap.size 5 1 (.slice a9 d.length c9) d.length (bcells d)∧Below w1.heap.size w1 w'):=fun w1 hb=>clone_any a1 c1 d w1 (by omega) (hdr.below hb)
  have KT:Hid (∀ w1,Below w.heap.size w w1→∀ a9 n9 c9,Calls Tryz.prog 104 #[.int .i64 (ty:Int),.slice a9 n9 c9] w1 fun e w'=>e=.returned (.agg #[.int .i64 ((flagN ty:Nat):Int),.int .i64 (ty:Int),.slice a9 n9 c9])∧Below w1.heap.size w1 w'):=fun w1 hb a9 n9 c9=>told_any ty a9 n9 c9 w1 (hS.below hb) (by omega) (by omega)
  have HRZ:Hid (∀ w',Box w' X B { a with raws:=a.raws++[(((flagN ty:Nat):Int),(ty:Int),d)] }→Keeps (NotBox X B) w w'→IntoRes X B w w' (.inr { a with raws:=a.raws++[(((flagN ty:Nat):Int),(ty:Int),d)] }) (.returned (.tuple #[]))):=fun w' h8 h9=>⟨rfl,h8,h9⟩
  have HX:=hide hbox
  have d1:decide ((ty:Int) < 1)=false:=decide_eq_false (by omega)
  have d8:decide ((8:Int) < (ty:Int))=false:=decide_eq_false (by omega)
  have e1:((ty:Int) == 1)=false:=by simp; omega
  have e2:((ty:Int) == 2)=false:=by simp; omega
  have e3:((ty:Int) == 3)=false:=by simp; omega
  have e4:((ty:Int) == 4)=false:=by simp; omega
  have e5:((ty:Int) == 5)=false:=by simp; omega
  have e8:((ty:Int) == 8)=false:=by simp; omega
  clear hbox hdr
  unfold partV
  generalize hdl:d.length=n1 at *
  have HBA:Hid (Below w.heap.size w (w.alloc (.cells #[.int .i64 (fl:Int),.int .i64 (ty:Int),.slice a1 n1 c1,.slice a2 n2 c2] 124))):=(Below.refl _ _).alloc (Nat.le_refl _) _
  have KH:Hid (∀ (w1:World) (_:Hid (Below w.heap.size w w1)) (x:Later w1),Calls Tryz.prog 98 #[.agg #[.int .i64 (fl:Int),.int .i64 (ty:Int),.slice a1 n1 c1,.slice a2 n2 c2]] x.w fun e w'=>e=.returned (.bool true)∧∃ y:Later w1,w'=y.w):=fun w1 hb x=>kh_to fl ty a1 n1 c1 a2 n2 c2 w hS hf (by omega) (by omega) true hv w1 hb x
  have KF:Hid (∀ (w1:World) (_:Hid (Below w.heap.size w w1)) (x:Later w1),Calls Tryz.prog 99 #[.int .i64 (ty:Int),.int .i64 (n1:Int)] x.w fun e w'=>e=.returned (.bool true)∧∃ y:Later w1,w'=y.w):=fun w1 hb x=>kf_to ty n1 w hS (by omega) (by omega) (by omega) true hs w1 hb x
  have x0:∀ x:Later (w.alloc (.cells #[.int .i64 (fl:Int),.int .i64 (ty:Int),.slice a1 n1 c1,.slice a2 n2 c2] 124)),x.w.cell? ⟨w.heap.size,0,none⟩=some (.int .i64 (fl:Int)):=fun x=>x.cell (by simp [go_sem])
  have x1:∀ x:Later (w.alloc (.cells #[.int .i64 (fl:Int),.int .i64 (ty:Int),.slice a1 n1 c1,.slice a2 n2 c2] 124)),x.w.cell? ⟨w.heap.size,1,none⟩=some (.int .i64 (ty:Int)):=fun x=>x.cell (by simp [go_sem])
  have x2:∀ x:Later (w.alloc (.cells #[.int .i64 (fl:Int),.int .i64 (ty:Int),.slice a1 n1 c1,.slice a2 n2 c2] 124)),x.w.cell? ⟨w.heap.size,2,none⟩=some (.slice a1 n1 c1):=fun x=>x.cell (by simp [go_sem])
  have x3:∀ x:Later (w.alloc (.cells #[.int .i64 (fl:Int),.int .i64 (ty:Int),.slice a1 n1 c1,.slice a2 n2 c2] 124)),x.w.cell? ⟨w.heap.size,3,none⟩=some (.slice a2 n2 c2):=fun x=>x.cell (by simp [go_sem])
  have hne:=later_some (w.alloc (.cells #[.int .i64 (fl:Int),.int .i64 (ty:Int),.slice a1 n1 c1,.slice a2 n2 c2] 124))
  clear hS hv hs
  generalize flagN ty=fg at *
  go_enter Tryz.func71,Tryz.ntmps71
  go_wp2_with fail
  refine region_later (by kernel_rfl) (by kernel_rfl) ?_
  repeat (go_big_quiet_step (first | (go_at_call 98; with_reducible exact KH.out _ HBA _) | (go_at_call 97; with_reducible exact kr_to _ _ _ _ _ _ _ _ _ _ _)))
  refine wpQuiet_nil ?_
  rintro _ ⟨xq,rfl⟩
  have HB3:Hid (Below w.heap.size w xq.w):=later_up HBA.out xq
  have p0:=x0 xq
  have p1:=x1 xq
  have p2:=x2 xq
  have p3:=x3 xq
  clear x0 x1 x2 x3 hne
  generalize xq.w=w3 at *
  have y0:∀ x:Later w3,x.w.cell? ⟨w.heap.size,0,none⟩=some (.int .i64 (fl:Int)):=fun x=>x.cell p0
  have y1:∀ x:Later w3,x.w.cell? ⟨w.heap.size,1,none⟩=some (.int .i64 (ty:Int)):=fun x=>x.cell p1
  have y2:∀ x:Later w3,x.w.cell? ⟨w.heap.size,2,none⟩=some (.slice a1 n1 c1):=fun x=>x.cell p2
  have y3:∀ x:Later w3,x.w.cell? ⟨w.heap.size,3,none⟩=some (.slice a2 n2 c2):=fun x=>x.cell p3
  have hne:=later_some w3
  go_wp2_with fail
  refine region_later (by kernel_rfl) (by kernel_rfl) ?_
  repeat (go_big_quiet_step (first | (go_at_call 99; with_reducible exact KF.out _ HB3 _) | (go_at_call 97; with_reducible exact kr_to _ _ _ _ _ _ _ _ _ _ _)))
  refine wpQuiet_nil ?_
  rintro _ ⟨xr,rfl⟩
  have HB4:Hid (Below w.heap.size w xr.w):=later_up HB3.out xr
  have q0:=y0 xr
  have q1:=y1 xr
  have q2:=y2 xr
  have q3:=y3 xr
  clear y0 y1 y2 y3 hne p0 p1 p2 p3
  generalize xr.w=w4 at *
  clear KH KF HBA HB3
  have hz4:w.heap.size < w4.heap.size:=by have:=World.block_lt_of_cell? w4 _ q0; simpa using this
  have HX4:=hide (HX.out.later HB4.out)
  obtain ⟨p6,k6,r6,_⟩:=HX4.out.c6
  have hX4:X < w4.heap.size:=by omega
  generalize hrl:a.raws.length=rl at *
  have HRL:=hide hrl
  have HDL:=hide hdl
  clear HX hrl hdl
  go_wp2_with fail
  go_region_with (first
    | (go_at_call 60; refine (KC.out _ (HB4.out.drew)).mono ?_; rintro e w9 ⟨a9,c9,rfl,ho9,hb9⟩
       have hbd:Below w4.heap.size w4 w9:=((Below.refl _ _).drew).trans hb9
       have HX9:=hide (HX4.out.later hbd)
       have HB9:=hide (HB4.out.trans (hbd.mono HB4.out.size))
       have HO9:=hide (own_base ho9 (show w.heap.size≤w4.drew.heap.size from HB4.out.size))
       have hX9:X < w9.heap.size:=Nat.lt_of_lt_of_le hX4 hbd.size
       have hz9:w.heap.size < w9.heap.size:=Nat.lt_of_lt_of_le hz4 hbd.size
       have r69:w9.cell? ⟨X,6,none⟩=some (.slice p6 rl k6):=(by rw [hbd.cell (p:=⟨X,6,none⟩) hX4]; exact r6)
       have q19:w9.cell? ⟨w.heap.size,1,none⟩=some (.int .i64 (ty:Int)):=(by rw [hbd.cell (p:=⟨w.heap.size,1,none⟩) hz4]; exact q1)
       clear hb9 ho9 hbd)
    | (go_at_call 104; refine (KT.out _ HB9.out _ _ _).mono ?_; rintro e w8 ⟨rfl,hb8⟩
       have HX8:=hide (HX9.out.later hb8)
       have HB8:=hide (HB9.out.trans (hb8.mono HB9.out.size))
       have hX8:X < w8.heap.size:=Nat.lt_of_lt_of_le hX9 hb8.size
       have r68:w8.cell? ⟨X,6,none⟩=some (.slice p6 rl k6):=(by rw [hb8.cell (p:=⟨X,6,none⟩) hX9]; exact r69)
       obtain ⟨p',c',w3,hr3,hb3,hx3⟩:=HX8.out.snoc (f:=(fg:Int)) (t:=(ty:Int)) (ds:=d) (u:=.slice a9 n1 c9) (Nat.le_trans hB HB8.out.size) (by rw [HRL.out]; omega) (by rw [HRL.out]; exact r68) (by rw [HDL.out]; exact own_base (own_later HO9.out hb8) hB) w8.heap.size rfl
       rw [HRL.out] at hr3 hx3
       have t6:w3.cell? ⟨X,6,none⟩=some (.slice p6 rl k6):=(by rw [hb3.cell (p:=⟨X,6,none⟩) hXB]; exact r68)
       have z6:w3.frozen? ⟨X,6,none⟩=false:=(by rw [hb3.frozen (p:=⟨X,6,none⟩) hXB]; exact HX8.out.fz 6)
       have HR3:=hide hr3
       have HX3:=hide hx3
       have HK3:=hide (keeps_low (keeps_box (X:=X) (B:=B) HB8.out) hb3)
       clear hr3 hx3 hb3 hb8)
    | (refine kept_appendR_intro _ _ (.slice p6 rl k6) (.slice (some ⟨w8.heap.size,0,none⟩) 1 1) (.slice p' (rl+1) c') (w':=w3) (by rfl) (by rfl) (by exact HR3.out) ?_))
  all_goals go_wp2
  all_goals go_end0
  all_goals exact HRZ.out _ HX3.out (HK3.out.setCell X 6 _ (.inl (.inl rfl)))
end
end Go.Proofs.YtogbjeaceboemaaGreatDoor
