import Derived.Test.YtogbjeaceboemaaGreatDoorPA6
import Derived.Deep.QuietTactic
import Derived.BigQuiet
import Derived.Deep.RegionHeld3
import Derived.Test.YtogbjeaceboemaaGreatDoorPA1
namespace Go.Proofs.YtogbjeaceboemaaGreatDoor
open Go.RowKit
set_option maxRecDepth 100000
theorem and_pow15 (N:Nat):N &&& 32768=if N.testBit 15 then 32768 else 0:=by
 have e:(32768:Nat)=2 ^ 15:=rfl
 apply Nat.eq_of_testBit_eq
 intro j
 rw [Nat.testBit_and]
 by_cases hj:j=15
 ·subst hj
  cases h:N.testBit 15 with
  | false=>simp
  | true=>simp
 ·have h2:Nat.testBit 32768 j=false:=by rw [e]; exact Nat.testBit_two_pow_of_ne (Ne.symm hj)
  rw [h2,Bool.and_false]
  split
  ·exact h2.symm
  ·simp
theorem and_high (N:Nat)(h:N < 65536):(bits .and .i64 (N:Int) 32768 != 0)=decide (128≤N / 256):=by
 have e:bits .and .i64 (N:Int) 32768=((N &&& 32768:Nat):Int):=and64 N 32768 (by omega) (by omega)
 rw [e,and_pow15,Nat.testBit_eq_decide_div_mod_eq]
 simp only [Nat.reducePow]
 by_cases hb:N / 32768 % 2=1
 ·rw [decide_eq_true hb,decide_eq_true (show 128≤N / 256 by omega)]; rfl
 ·rw [decide_eq_false hb,decide_eq_false (show ¬ 128≤N / 256 by omega)]; rfl
theorem and_low (N:Nat)(h:N < 65536):bits .and .i64 (N:Int) 4095=((N % 4096:Nat):Int):=by
 have e:bits .and .i64 (N:Int) 4095=((N &&& 4095:Nat):Int):=and64 N 4095 (by omega) (by omega)
 rw [e,show N &&& 4095=N % 4096 from Nat.and_two_pow_sub_one_eq_mod N 12]
theorem and_128 (x:Nat)(h:x < 256):(bits .and .u8 (x:Int) 128 != 0)=decide (128≤x):=by
 have e:bits .and .u8 (x:Int) ((128:Nat):Int)=((x &&& 128:Nat):Int):=(bits_nat .u8 8 (by decide) (fun n h0 h1=>by rw [IntKind.wrap_u8]; simp only [Int.reducePow] at h1; omega) _ _ (by simpa using h) (by decide)).1
 have e2:bits .and .u8 (x:Int) 128=((x &&& 128:Nat):Int):=e
 rw [e2]
 have key:∀ y:Fin 256,((((y:Nat) &&& 128:Nat):Int) != 0)=decide (128≤(y:Nat)):=by decide +kernel
 exact key ⟨x,h⟩
theorem numB_two (bs:List Nat)(h:2≤bs.length):numB (bs.take 2)=bs.getD 0 0 * 256+bs.getD 1 0:=by
 match bs,h with
 | a :: b :: _,_=>simp [numB]
def w3s (w:World)(X:Nat)(rs:Bool)(tm:Int):World:=((w.setCell ⟨X,2,none⟩ (.bool true)).setCell ⟨X,3,none⟩ (.bool rs)).setCell ⟨X,4,none⟩ (.int .i64 tm)
theorem w3s_keeps (w:World)(X:Nat)(rs:Bool)(tm:Int):Keeps (fun b=>b=X) w (w3s w X rs tm) :=
 (((Keeps.refl (fun b=>b=X) w).setCell X 2 _ (.inl rfl)).setCell X 3 _ (.inl rfl)).setCell X 4 _ (.inl rfl)
theorem w3s_box {w:World}{X:Nat}{c:Cp} (h:CBox w X c) (rs:Bool) (tm:Int):CBox (w3s w X rs tm) X { c with gr:=true,rs:=rs,tm:=tm }:=by
 obtain ⟨x0,x1,x2,x3,x4,x5,x6,x7,x8⟩:=h.cells
 have k:∀ j v,w.cell? ⟨X,j,none⟩=some v→(w3s w X rs tm).cell? ⟨X,j,none⟩=some (if 4=j then .int .i64 tm else if 3=j then .bool rs else if 2=j then .bool true else v):=fun j v h=>box_set _ X 4 _ j _ (box_set _ X 3 _ j _ (box_set _ X 2 _ j _ h))
 exact ⟨⟨k 0 _ x0,k 1 _ x1,k 2 _ x2,k 3 _ x3,k 4 _ x4,k 5 _ x5,k 6 _ x6,k 7 _ x7,k 8 _ x8⟩,fun j=>by unfold w3s; rw [World.frozen?_setCell,World.frozen?_setCell,World.frozen?_setCell]; exact h.free j⟩
theorem two_box {w:World}{X:Nat}{c:Cp} (h:CBox w X c) (fam fwd:Bool):CBox ((w.setCell ⟨X,5,none⟩ (.bool fam)).setCell ⟨X,6,none⟩ (.bool fwd)) X { c with fam:=fam,fwd:=fwd }:=by
 obtain ⟨x0,x1,x2,x3,x4,x5,x6,x7,x8⟩:=h.cells
 have k:∀ j v,w.cell? ⟨X,j,none⟩=some v→((w.setCell ⟨X,5,none⟩ (.bool fam)).setCell ⟨X,6,none⟩ (.bool fwd)).cell? ⟨X,j,none⟩=some (if 6=j then .bool fwd else if 5=j then .bool fam else v):=fun j v h=>box_set _ X 6 _ j _ (box_set _ X 5 _ j _ h)
 exact ⟨⟨k 0 _ x0,k 1 _ x1,k 2 _ x2,k 3 _ x3,k 4 _ x4,k 5 _ x5,k 6 _ x6,k 7 _ x7,k 8 _ x8⟩,fun j=>by rw [World.frozen?_setCell,World.frozen?_setCell]; exact h.free j⟩
set_option maxHeartbeats 1600000 in
theorem rgr_bad (X:Nat)(a:Option Addr)(n cap:Nat)(w:World)(h:n % 4≠2)(hl:n≤10000):Calls Tryz.prog 91 #[.pointer (some ⟨X,0,none⟩),.slice a n cap] w fun e w'=>e=.returned (.bool false)∧w'=w:=by
 by_cases h2:n < 2
 ·have h2i:((n:Int) < 2):=by omega
  clear h
  go_enter Tryz.func91,Tryz.ntmps91
  go_wp2
  go_ret
  exact ⟨rfl,rfl⟩
 ·have h2i:decide ((n:Int) < 2)=false:=decide_eq_false (by omega)
  obtain ⟨m,rfl⟩:∃ m,n=m+2:=⟨n - 2,by omega⟩
  have hm:((m:Int) % 4 != 0)=true:=by
   simp
   omega
  clear h h2
  go_enter Tryz.func91,Tryz.ntmps91
  go_wp2
  go_ret
  exact ⟨rfl,rfl⟩
set_option maxHeartbeats 3200000 in
theorem rgr_good (X:Nat)(c:Cp)(a:Option Addr)(cap:Nat)(bs:List Nat)(w:World)(hx:CBox w X c)(hr:BRd w a bs)(hne:∀ x,a=some x→0 < bs.length→x.block≠X)(hl:bs.length≤10000)(hcap:bs.length≤cap)(h:bs.length % 4=2) :
  Calls Tryz.prog 91 #[.pointer (some ⟨X,0,none⟩),.slice a bs.length cap] w fun e w'=>Took X (some (putGR bs c)) e w'∧Keeps (fun b=>b=X) w w':=by
 obtain ⟨b,o,rfl,hc⟩:=hr.1.2 (by omega)
 have hbX:b≠X:=hne ⟨b,o,none⟩ rfl (by omega)
 obtain ⟨N,hN⟩:∃ N,N=numB (bs.take 2):=⟨_,rfl⟩
 have hN2:=numB_two bs (by omega)
 rw [← hN] at hN2
 have g0:=getD_lt256 hr.2 0
 have g1:=getD_lt256 hr.2 1
 have hNlt:N < 65536:=by omega
 have HN:=hide (numof_any b o 2 cap (bs.take 2) w (by rw [List.length_take]; omega) (by omega) (take_lt hr.2 2) (fun i hi=>by
  have h9:w.cell? ⟨b,o+i,none⟩=some (.int .u8 (bs.getD i 0:Int)):=hc i (by omega)
  rw [h9,List.getD_eq_getElem?_getD,List.getD_eq_getElem?_getD,List.getElem?_take_of_lt hi]))
 rw [← hN] at HN
 have hhi:=and_high N hNlt
 have hlo:=and_low N hNlt
 obtain ⟨R,hR⟩:∃ R,R=decide (128≤N / 256):=⟨_,rfl⟩
 obtain ⟨T,hT⟩:∃ T,T=N % 4096:=⟨_,rfl⟩
 have hR2:R=decide (128≤bs.getD 0 0):=by rw [hR,hN2]; congr 1; rw [eq_iff_iff]; omega
 have hT2:T=bs.getD 0 0 % 16 * 256+bs.getD 1 0:=by rw [hT,hN2]; omega
 rw [← hR] at hhi
 rw [← hT] at hlo
 have HP:Hid (∀ fam fwd,fam=(fstU 4 (bs.drop 2)).isSome→fwd=fwdOf (fstU 4 (bs.drop 2))→({ ({ c with gr:=true,rs:=R,tm:=(T:Int) } : Cp) with fam:=fam,fwd:=fwd } : Cp)=putGR bs c):=fun fam fwd h1 h2=>by
  subst h1 h2
  rw [hR2,hT2]; rfl
 have HK3:=hide (w3s_keeps w X R (T:Int))
 have HX3:=hide (w3s_box hx R (T:Int))
 have hr3:BRd (w3s w X R (T:Int)) (some ⟨b,o,none⟩) bs:=hr.keeps HK3.out (fun x e _=>by cases e; exact hbX)
 have hdl:(bs.drop 2).length=bs.length - 2:=List.length_drop ..
 have HF:Hid (∀ a2 c2,(a2=some ⟨b,o,none⟩∧cap=2∧c2=0∨a2=some ⟨b,o+2,none⟩∧c2=cap - 2)→Calls Tryz.prog 123 #[.slice a2 (bs.length - 2) c2,.int .i64 4] (w3s w X R (T:Int)) fun e w'=>UniRes (w3s w X R (T:Int)) X 4 (fstU 4 (bs.drop 2)) e∧w'=w3s w X R (T:Int)):=fun a2 c2 hh=>by
  have h1:=fstu_any X a2 c2 (bs.drop 2) 4 (w3s w X R (T:Int)) (by omega) (by omega) (by omega) (by omega) ?_ ?_
  ·rw [hdl] at h1; exact h1
  ·rcases hh with ⟨rfl,h2,rfl⟩ | ⟨rfl,rfl⟩
   ·have h0:bs.drop 2=[]:=List.drop_eq_nil_of_le (by omega)
    rw [h0]
    exact ⟨Rw.nil _ _ _,by simp⟩
   ·refine ⟨⟨by unfold maxLen; omega,fun hp=>⟨b,o+2,rfl,fun i hi=>?_⟩⟩,fun x hx=>hr.2 x (List.mem_of_mem_drop hx)⟩
    have h9:(w3s w X R (T:Int)).cell? ⟨b,o+(2+i),none⟩=some (.int .u8 (bs.getD (2+i) 0:Int)):=by
     obtain ⟨b9,o9,e9,h8⟩:=hr3.1.2 (by omega)
     cases e9
     exact h8 (2+i) (by omega)
    rw [← Nat.add_assoc] at h9
    show _=some (Value.int .u8 (((bs.drop 2).getD i 0:Nat):Int))
    rw [h9,List.getD_eq_getElem?_getD,List.getD_eq_getElem?_getD,List.getElem?_drop]
  ·intro x hx _
   rcases hh with ⟨rfl,_,_⟩ | ⟨rfl,_⟩ <;> (cases hx; exact hbX)
 have HX:=hide hx
 have hXs:=hx.size
 have hbs:=World.block_lt_of_cell? w _ (hc 0 (by omega))
 simp only at hbs
 obtain ⟨x0,x1,x2,x3,x4,x5,x6,x7,x8⟩:=hx.cells
 have f2:=hx.free 2
 have f3:=hx.free 3
 have f4:=hx.free 4
 have f5:=hx.free 5
 have f6:=hx.free 6
 generalize putGR bs c=pc at *
 generalize hfu0:fstU 4 (bs.drop 2)=fu at *
 obtain ⟨m,hm⟩:∃ m,bs.length=m+2:=⟨bs.length - 2,by omega⟩
 rw [hm] at HF hcap hl h
 rw [hm]
 simp only [Nat.add_sub_cancel] at HF
 have hmi:((m:Int) % 4 != 0)=false:=by simp; omega
 clear hne hr3 hr hc hR hT hR2 hT2 hx g0 g1 hN hN2 hdl hm hfu0 h
 obtain ⟨four,as4,gr,rs,tm,fam,fwd,ll,lt⟩:=c
 simp only at *
 by_cases hc2:cap=2
 ·have HF1:=hide (HF.out (some ⟨b,o,none⟩) 0 (.inl ⟨rfl,hc2,rfl⟩))
  have hm0:m=0:=by omega
  subst hm0
  subst hc2
  clear HF
  unfold w3s at *
  go_enter Tryz.func91,Tryz.ntmps91
  go_wp2_with fail
  refine HN.out.mono ?_
  rintro e w1 ⟨rfl,rfl⟩
  go_wp2_with fail
  refine HF1.out.mono ?_
  rintro e w2 ⟨hu,hw2⟩
  rw [← hw2] at HX3 HK3 hu
  clear hw2 x0 x1 x2 x3 x4 x5 x6 x7 x8 f2 f3 f4 f5 f6 HF1 HN HX
  have hXs2:=HX3.out.size
  obtain ⟨x0,x1,x2,x3,x4,x5,x6,x7,x8⟩:=HX3.out.cells
  have f5:=HX3.out.free 5
  have f6:=HX3.out.free 6
  simp only at x0 x1 x2 x3 x4 x5 x6 x7 x8
  cases fu with
  | none =>
   obtain rfl:e=_:=hu
   have HB:=hide (two_box HX3.out false false)
   have HQ:=hide (HP.out false false rfl rfl)
   go_wp2
   go_ret
   refine ⟨took_go rfl ?_,(HK3.out.setCell X 5 _ (.inl rfl)).setCell X 6 _ (.inl rfl)⟩
   rw [← HQ.out]; exact HB.out
  | some u =>
   obtain ⟨b2,o2,k2,rfl,hb2,hk2,hu4,hu256,hcu⟩:=hu
   have y3:=hcu 3 (by omega)
   have h128:=and_128 (u.getD 3 0) (getD_lt256 hu256 3)
   have HB:=hide (two_box HX3.out true (decide (128≤u.getD 3 0)))
   have HQ:=hide (HP.out true (decide (128≤u.getD 3 0)) rfl rfl)
   obtain ⟨F,hF⟩:∃ F,F=decide (128≤u.getD 3 0):=⟨_,rfl⟩
   rw [← hF] at h128 HB HQ
   generalize u.getD 3 0=z at *
   have z3:(w2.setCell ⟨X,5,none⟩ (.bool true)).cell? ⟨b2,o2+3,none⟩=some (.int .u8 (z:Int)):=by
    rw [World.cell?_setCell_other _ _ _ _ (by intro e9; injection e9 with e2 _ _; exact hb2 e2.symm)]
    exact y3
   have hz2:b2 < w2.heap.size:=by have:=World.block_lt_of_cell? w2 _ y3; simpa using this
   clear hF hu4 hu256 hcu
   go_wp2
   go_ret
   refine ⟨took_go rfl ?_,(HK3.out.setCell X 5 _ (.inl rfl)).setCell X 6 _ (.inl rfl)⟩
   rw [← HQ.out]; exact HB.out
 ·have HF1:=hide (HF.out (some ⟨b,o+2,none⟩) (cap - 2) (.inr ⟨rfl,rfl⟩))
  clear HF
  unfold w3s at *
  go_enter Tryz.func91,Tryz.ntmps91
  go_wp2_with fail
  refine HN.out.mono ?_
  rintro e w1 ⟨rfl,rfl⟩
  go_wp2_with fail
  refine HF1.out.mono ?_
  rintro e w2 ⟨hu,hw2⟩
  rw [← hw2] at HX3 HK3 hu
  clear hw2 x0 x1 x2 x3 x4 x5 x6 x7 x8 f2 f3 f4 f5 f6 HF1 HN HX
  have hXs2:=HX3.out.size
  obtain ⟨x0,x1,x2,x3,x4,x5,x6,x7,x8⟩:=HX3.out.cells
  have f5:=HX3.out.free 5
  have f6:=HX3.out.free 6
  simp only at x0 x1 x2 x3 x4 x5 x6 x7 x8
  cases fu with
  | none =>
   obtain rfl:e=_:=hu
   have HB:=hide (two_box HX3.out false false)
   have HQ:=hide (HP.out false false rfl rfl)
   go_wp2
   go_ret
   refine ⟨took_go rfl ?_,(HK3.out.setCell X 5 _ (.inl rfl)).setCell X 6 _ (.inl rfl)⟩
   rw [← HQ.out]; exact HB.out
  | some u =>
   obtain ⟨b2,o2,k2,rfl,hb2,hk2,hu4,hu256,hcu⟩:=hu
   have y3:=hcu 3 (by omega)
   have h128:=and_128 (u.getD 3 0) (getD_lt256 hu256 3)
   have HB:=hide (two_box HX3.out true (decide (128≤u.getD 3 0)))
   have HQ:=hide (HP.out true (decide (128≤u.getD 3 0)) rfl rfl)
   obtain ⟨F,hF⟩:∃ F,F=decide (128≤u.getD 3 0):=⟨_,rfl⟩
   rw [← hF] at h128 HB HQ
   generalize u.getD 3 0=z at *
   have z3:(w2.setCell ⟨X,5,none⟩ (.bool true)).cell? ⟨b2,o2+3,none⟩=some (.int .u8 (z:Int)):=by
    rw [World.cell?_setCell_other _ _ _ _ (by intro e9; injection e9 with e2 _ _; exact hb2 e2.symm)]
    exact y3
   have hz2:b2 < w2.heap.size:=by have:=World.block_lt_of_cell? w2 _ y3; simpa using this
   clear hF hu4 hu256 hcu
   go_wp2
   go_ret
   refine ⟨took_go rfl ?_,(HK3.out.setCell X 5 _ (.inl rfl)).setCell X 6 _ (.inl rfl)⟩
   rw [← HQ.out]; exact HB.out
theorem rgr_any (X:Nat)(c:Cp)(a:Option Addr)(cap:Nat)(bs:List Nat)(w:World)(hx:CBox w X c)(hr:BRd w a bs)(hne:∀ x,a=some x→0 < bs.length→x.block≠X)(hl:bs.length≤10000)(hcap:bs.length≤cap) :
  Calls Tryz.prog 91 #[.pointer (some ⟨X,0,none⟩),.slice a bs.length cap] w fun e w'=>Took X (readOne 64 bs c) e w'∧Keeps (fun b=>b=X) w w':=by
 have e64:readOne 64 bs c=if bs.length % 4=2 then some (putGR bs c) else none:=by unfold readOne; rw [if_neg (by omega),if_pos rfl]
 rw [e64]
 by_cases h:bs.length % 4=2
 ·rw [if_pos h]; exact rgr_good X c a cap bs w hx hr hne hl hcap h
 ·rw [if_neg h]
  refine (rgr_bad X a bs.length cap w h hl).mono fun e w' ⟨h1,h2⟩=>⟨?_,by rw [h2]; exact Keeps.refl _ _⟩
  rw [h1]; rfl
theorem ll_box {w:World}{X:Nat}{c:Cp} (h:CBox w X c) (ll:Bool) (lt:Int):CBox ((w.setCell ⟨X,7,none⟩ (.bool ll)).setCell ⟨X,8,none⟩ (.int .i64 lt)) X { c with ll:=ll,lt:=lt }:=by
 obtain ⟨x0,x1,x2,x3,x4,x5,x6,x7,x8⟩:=h.cells
 have k:∀ j v,w.cell? ⟨X,j,none⟩=some v→((w.setCell ⟨X,7,none⟩ (.bool ll)).setCell ⟨X,8,none⟩ (.int .i64 lt)).cell? ⟨X,j,none⟩=some (if 8=j then .int .i64 lt else if 7=j then .bool ll else v):=fun j v h=>box_set _ X 8 _ j _ (box_set _ X 7 _ j _ h)
 exact ⟨⟨k 0 _ x0,k 1 _ x1,k 2 _ x2,k 3 _ x3,k 4 _ x4,k 5 _ x5,k 6 _ x6,k 7 _ x7,k 8 _ x8⟩,fun j=>by rw [World.frozen?_setCell,World.frozen?_setCell]; exact h.free j⟩
theorem lt_box {w:World}{X:Nat}{c:Cp} (h:CBox w X c) (lt:Int):CBox (w.setCell ⟨X,8,none⟩ (.int .i64 lt)) X { c with lt:=lt }:=by
 obtain ⟨x0,x1,x2,x3,x4,x5,x6,x7,x8⟩:=h.cells
 have k:∀ j v,w.cell? ⟨X,j,none⟩=some v→(w.setCell ⟨X,8,none⟩ (.int .i64 lt)).cell? ⟨X,j,none⟩=some (if 8=j then .int .i64 lt else v):=fun j v h=>box_set _ X 8 _ j _ h
 exact ⟨⟨k 0 _ x0,k 1 _ x1,k 2 _ x2,k 3 _ x3,k 4 _ x4,k 5 _ x5,k 6 _ x6,k 7 _ x7,k 8 _ x8⟩,fun j=>by rw [World.frozen?_setCell]; exact h.free j⟩
theorem numB_three {u:List Nat}(h:u.length=7):numB (u.drop 4)=ltCp (some u):=by
 match u,h with
 | [a0,a1,a2,a3,a4,a5,a6],_ =>
  simp only [ltCp,List.drop_succ_cons,List.drop_zero,numB,List.foldl_cons,List.foldl_nil,List.getD_cons_succ,List.getD_cons_zero]
  omega
set_option maxHeartbeats 1600000 in
theorem rll_bad (X:Nat)(a:Option Addr)(n cap:Nat)(w:World)(h:n % 7≠0)(hl:n≤10000):Calls Tryz.prog 92 #[.pointer (some ⟨X,0,none⟩),.slice a n cap] w fun e w'=>e=.returned (.bool false)∧w'=w:=by
 have hm:((n:Int) % 7 != 0)=true:=by
  simp
  omega
 clear h
 go_enter Tryz.func92,Tryz.ntmps92
 go_wp2
 go_ret
 exact ⟨rfl,rfl⟩
set_option maxHeartbeats 3200000 in
theorem rll_good (X:Nat)(c:Cp)(a:Option Addr)(cap:Nat)(bs:List Nat)(w:World)(hx:CBox w X c)(hr:BRd w a bs)(hne:∀ x,a=some x→0 < bs.length→x.block≠X)(hl:bs.length≤10000)(hcap:bs.length≤cap)(h:bs.length % 7=0) :
  Calls Tryz.prog 92 #[.pointer (some ⟨X,0,none⟩),.slice a bs.length cap] w fun e w'=>Took X (some (putLL bs c)) e w'∧Keeps (fun b=>b=X) w w':=by
 have HF:=hide (fstu_any X a cap bs 7 w (by omega) (by omega) hl hcap hr hne)
 have HP:Hid (∀ ll lt,ll=(fstU 7 bs).isSome→lt=(ltCp (fstU 7 bs):Int)→({ c with ll:=ll,lt:=lt } : Cp)=putLL bs c):=fun ll lt h1 h2=>by
  subst h1 h2
  rfl
 have HX:=hide hx
 have hXs:=hx.size
 obtain ⟨x0,x1,x2,x3,x4,x5,x6,x7,x8⟩:=hx.cells
 have f7:=hx.free 7
 have f8:=hx.free 8
 generalize putLL bs c=pc at *
 generalize fstU 7 bs=fu at *
 have hmi:((bs.length:Int) % 7 != 0)=false:=by simp; omega
 clear hne hr hx h
 generalize bs.length=n at *
 obtain ⟨four,as4,gr,rs,tm,fam,fwd,ll,lt⟩:=c
 simp only at *
 go_enter Tryz.func92,Tryz.ntmps92
 go_wp2_with fail
 refine HF.out.mono ?_
 rintro e w1 ⟨hu,rfl⟩
 have HK:=hide (((Keeps.refl (fun b=>b=X) w1).setCell X 7 (.bool fu.isSome) (.inl rfl)).setCell X 8 (.int .i64 0) (.inl rfl))
 have HB:=hide (ll_box HX.out fu.isSome 0)
 cases fu with
 | none =>
  obtain rfl:e=_:=hu
  have HQ:=hide (HP.out false 0 rfl rfl)
  go_wp2
  go_ret
  refine ⟨took_go rfl ?_,HK.out⟩
  rw [← HQ.out]; exact HB.out
 | some u =>
  obtain ⟨b2,o2,k2,rfl,hb2,hk2,hu7,hu256,hcu⟩:=hu
  have HQ:=hide (HP.out true (ltCp (some u):Int) rfl rfl)
  have HN:Hid (Calls Tryz.prog 121 #[.slice (some ⟨b2,o2+4,none⟩) 3 (k2 - 4)] ((w1.setCell ⟨X,7,none⟩ (.bool true)).setCell ⟨X,8,none⟩ (.int .i64 0)) fun e w'=>e=.returned (.int .i64 (numB (u.drop 4):Int))∧w'=(w1.setCell ⟨X,7,none⟩ (.bool true)).setCell ⟨X,8,none⟩ (.int .i64 0)) :=
   numof_any b2 (o2+4) 3 (k2 - 4) (u.drop 4) _ (by rw [List.length_drop]; omega) (by omega) (fun x hx=>hu256 x (List.mem_of_mem_drop hx)) (fun i hi=>by
    have h9:=hcu (4+i) (by omega)
    rw [World.cell?_setCell_other _ _ _ _ (by intro e9; injection e9 with e2 _ _; exact hb2 e2.symm),World.cell?_setCell_other _ _ _ _ (by intro e9; injection e9 with e2 _ _; exact hb2 e2.symm),Nat.add_assoc,h9,List.getD_eq_getElem?_getD,List.getD_eq_getElem?_getD,List.getElem?_drop])
  rw [numB_three hu7] at HN
  have hk4:¬ k2=4:=by omega
  have hk7:(7:Int)≤(k2:Int):=by omega
  rw [show (some u).isSome=true from rfl] at HB HK
  have HB3:=hide (lt_box HB.out (ltCp (some u):Int))
  generalize ltCp (some u)=L at *
  clear hu256 hcu hu7
  go_wp2_with fail
  refine HN.out.mono ?_
  rintro e w2 ⟨rfl,hw2⟩
  rw [← hw2] at HB3
  have HK2:Hid (Keeps (fun b=>b=X) w1 w2):=by rw [hw2]; exact HK.out
  have HB2:Hid (CBox w2 X { four:=four,as4:=as4,gr:=gr,rs:=rs,tm:=tm,fam:=fam,fwd:=fwd,ll:=true,lt:=0 }):=by rw [hw2]; exact HB.out
  clear hw2 x0 x1 x2 x3 x4 x5 x6 x7 x8 f7 f8
  obtain ⟨x0,x1,x2,x3,x4,x5,x6,x7,x8⟩:=HB2.out.cells
  have f8:=HB2.out.free 8
  have hXs2:=HB2.out.size
  simp only at x0 x1 x2 x3 x4 x5 x6 x7 x8
  go_wp2
  go_ret
  refine ⟨took_go rfl ?_,HK2.out.setCell X 8 _ (.inl rfl)⟩
  rw [← HQ.out]; exact HB3.out
theorem rll_any (X:Nat)(c:Cp)(a:Option Addr)(cap:Nat)(bs:List Nat)(w:World)(hx:CBox w X c)(hr:BRd w a bs)(hne:∀ x,a=some x→0 < bs.length→x.block≠X)(hl:bs.length≤10000)(hcap:bs.length≤cap) :
  Calls Tryz.prog 92 #[.pointer (some ⟨X,0,none⟩),.slice a bs.length cap] w fun e w'=>Took X (readOne 71 bs c) e w'∧Keeps (fun b=>b=X) w w':=by
 have e71:readOne 71 bs c=if bs.length % 7=0 then some (putLL bs c) else none:=by unfold readOne; rw [if_neg (by omega),if_neg (by omega),if_pos rfl]
 rw [e71]
 by_cases h:bs.length % 7=0
 ·rw [if_pos h]; exact rll_good X c a cap bs w hx hr hne hl hcap h
 ·rw [if_neg h]
  refine (rll_bad X a bs.length cap w h hl).mono fun e w' ⟨h1,h2⟩=>⟨?_,by rw [h2]; exact Keeps.refl _ _⟩
  rw [h1]; rfl
theorem took_of {X:Nat}{r:Option Cp}{e:Ending}{w:World} (h:Took X r e w):∃ z:Bool,e=.returned (.bool z)∧Took X r (.returned (.bool z)) w:=by
 cases r with
 | none=>exact ⟨false,h,rfl⟩
 | some c=>exact ⟨true,h.1,rfl,h.2⟩
set_option maxHeartbeats 1600000 in
theorem take1_any (X P:Nat)(c:Cp)(k:Nat)(a:Option Addr)(cap:Nat)(bs:List Nat)(w:World)(hp:w.cell? ⟨P,0,none⟩=some (.pointer (some ⟨X,0,none⟩)))(hx:CBox w X c)(hr:BRd w a bs)(hne:∀ x,a=some x→0 < bs.length→x.block≠X)(hl:bs.length≤10000)(hcap:bs.length≤cap) :
  Calls Tryz.prog 89 #[.int .i64 (k:Int),.slice a bs.length cap,.pointer (some ⟨P,0,none⟩)] w fun e w'=>Took X (readOne k bs c) e w'∧Keeps (fun b=>b=X) w w':=by
 have hP:=World.block_lt_of_cell? w _ hp
 simp only at hP
 have H65:=hide (rfour_any X c a cap bs w hx hr)
 have H64:=hide (rgr_any X c a cap bs w hx hr hne hl hcap)
 have H71:=hide (rll_any X c a cap bs w hx hr hne hl hcap)
 have HE:Hid (¬ k=65→¬ k=64→¬ k=71→readOne k bs c=some c):=fun h1 h2 h3=>by show _=_; unfold readOne; rw [if_neg h1,if_neg h2,if_neg h3]
 have HX:=hide hx
 clear hx hr hne
 by_cases h65:k=65
 ·subst h65
  generalize readOne 65 bs c=ro at *
  generalize bs.length=n at *
  clear H64 H71 HE
  go_enter Tryz.func89,Tryz.ntmps89
  go_wp2_with fail
  refine H65.out.mono ?_
  rintro e w1 ⟨ht,hk⟩
  obtain ⟨z,rfl,ht⟩:=took_of ht
  have HT:=hide ht
  have HK:=hide hk
  clear ht hk
  go_wp2
  go_ret
  exact ⟨HT.out,HK.out⟩
 ·by_cases h64:k=64
  ·subst h64
   generalize readOne 64 bs c=ro at *
   generalize bs.length=n at *
   clear H65 H71 HE
   go_enter Tryz.func89,Tryz.ntmps89
   go_wp2_with fail
   refine H64.out.mono ?_
   rintro e w1 ⟨ht,hk⟩
   obtain ⟨z,rfl,ht⟩:=took_of ht
   have HT:=hide ht
   have HK:=hide hk
   clear ht hk
   go_wp2
   go_ret
   exact ⟨HT.out,HK.out⟩
  ·by_cases h71:k=71
   ·subst h71
    generalize readOne 71 bs c=ro at *
    generalize bs.length=n at *
    clear H65 H64 HE
    go_enter Tryz.func89,Tryz.ntmps89
    go_wp2_with fail
    refine H71.out.mono ?_
    rintro e w1 ⟨ht,hk⟩
    obtain ⟨z,rfl,ht⟩:=took_of ht
    have HT:=hide ht
    have HK:=hide hk
    clear ht hk
    go_wp2
    go_ret
    exact ⟨HT.out,HK.out⟩
   ·have HE2:=hide (HE.out h65 h64 h71)
    generalize readOne k bs c=ro at *
    generalize bs.length=n at *
    have i65:((k:Int) == 65)=false:=by simp; omega
    have i64:((k:Int) == 64)=false:=by simp; omega
    have i71:((k:Int) == 71)=false:=by simp; omega
    clear H65 H64 H71 HE h65 h64 h71
    go_enter Tryz.func89,Tryz.ntmps89
    go_wp2
    go_ret
    exact ⟨took_go HE2.out HX.out,Keeps.refl _ _⟩
def TookI (Inv:Cp→World→Prop)(r:Option Cp)(e:Ending)(w:World):Prop:=match r with
  | none=>e=.returned (.bool false)
  | some c=>e=.returned (.bool true)∧Inv c w
set_option maxHeartbeats 3200000 in
theorem each_inv (f:Nat→List Nat→Cp→Option Cp)(K:Nat)(cs:Array Value)(Inv:Cp→World→Prop)(F:Nat→Prop)(a:Option Addr)(cap:Nat)(bs:List Nat)(c0:Cp)(w:World)(hl:bs.length≤10000)(hcap:bs.length≤cap)(hr:BRd w a bs)
    (hF:∀ x,a=some x→0 < bs.length→¬ F x.block) (hi:Inv c0 w)
    (hent:∀ args w,(callFunc K args).run Tryz.prog w=.ok (.enter K args) w)
    (hst:∀ c w1 w2,Inv c w1→Below w1.heap.size w1 w2→Inv c w2)
    (hcall:∀ (w1:World) (c:Cp) (k:Nat) (a:Option Addr) (cap:Nat) (vs:List Nat),Keeps F w w1→Inv c w1→BRd w1 a vs→(∀ x,a=some x→0 < vs.length→¬ F x.block)→vs.length≤255→vs.length≤cap→k < 256 →
      Calls Tryz.prog K (#[.int .i64 (k:Int),.slice a vs.length cap]++cs) w1 fun e w2=>TookI Inv (f k vs c) e w2∧Keeps F w1 w2) :
    Calls Tryz.prog 65 #[.slice a bs.length cap,.func (.func K) #[] cs] w fun e w'=>TookI Inv (eachC f bs c0) e w'∧Keeps F w w':=by
  have HR:=hide hr
  have HF:=hide hF
  have HI:=hide hi
  have HST:=hide hst
  have HC:=hide hcall
  clear hr hF hi hst hcall
  go_enter Tryz.func65,Tryz.ntmps65
  go_wp2
  go_loopw [0] (fun u wq=>∃ (rest:List Nat) (a:Option Addr) (n cp:Nat) (c:Cp),u=.slice a n cp∧Hid (rest.length=n)∧n≤cp∧n≤10000∧Hid (eachC f bs c0=eachC f rest c)∧Hid (BRd wq a rest)∧Hid (∀ x,a=some x→0 < n→¬ F x.block)∧Hid (Inv c wq)∧Hid (Keeps F w wq)) (fun u _=>sliceLen u)
  case atStart=>exact ⟨bs,a,_,cap,c0,rfl,rfl,hcap,hl,rfl,HR,HF,HI,Keeps.refl _ _⟩
  case round =>
    clear HR HF HI
    obtain ⟨rest,a1,n,cp,c,rfl,HN,hnc,hn,HE,HB,HX,HI,HK⟩:=hrel
    by_cases h0:n=0
    · have HE2:Hid (eachC f bs c0=some c):=by
        show _=_
        rw [HE.out,List.eq_nil_of_length_eq_zero (HN.out.trans h0),eachC_end]
      subst h0
      go_wp2
      go_ret
      exact ⟨by rw [HE2.out]; exact ⟨rfl,HI.out⟩,HK.out⟩
    · have hne:rest≠[]:=fun e=>h0 (by rw [← HN.out,e]; rfl)
      have hn0:(0:Int) < (n:Int):=by omega
      by_cases h2:n < 2
      · have HE2:Hid (eachC f bs c0=none):=by
          show _=_
          rw [HE.out,eachC_no hne (decide_eq_false (fun h=>by rw [HN.out] at h; omega))]
        have h2i:(n:Int) < 2:=by omega
        go_wp2
        go_ret
        exact ⟨by rw [HE2.out]; rfl,HK.out⟩
      · obtain ⟨b,o,rfl,hc⟩:=HB.out.1.2 (by rw [HN.out]; omega)
        have hbF:¬ F b:=HX.out ⟨b,o,none⟩ rfl (by omega)
        obtain ⟨l,hl1⟩:∃ l,l=rest.getD 1 0:=⟨_,rfl⟩
        obtain ⟨k,hk1⟩:∃ k,k=rest.getD 0 0:=⟨_,rfl⟩
        have y1:wr.cell? ⟨b,o+1,none⟩=some (.int .u8 (l:Int)):=by rw [hl1]; exact hc 1 (by rw [HN.out]; omega)
        have y0:wr.cell? ⟨b,o,none⟩=some (.int .u8 (k:Int)):=by rw [hk1]; exact hc 0 (by rw [HN.out]; omega)
        have hl256:l < 256:=by rw [hl1]; exact getD_lt256 HB.out.2 1
        have hk256:k < 256:=by rw [hk1]; exact getD_lt256 HB.out.2 0
        have hbs:b < wr.heap.size:=by have:=World.block_lt_of_cell? wr _ y0; simpa using this
        have hn1:(1:Int) < (n:Int):=by omega
        have h2i:¬ ((n:Int) < 2):=by omega
        by_cases hend:n < 2+l
        · have HE2:Hid (eachC f bs c0=none):=by
            show _=_
            rw [HE.out,eachC_no hne (decide_eq_false (fun h=>by rw [HN.out,← hl1] at h; omega))]
          have hei:(n:Int) < 2+(l:Int):=by omega
          clear HE HB HX HC hc hl1 hk1 hne h0 h2
          go_wp2_with fail
          go_quiet (fail)
          go_wp2
          go_ret
          exact ⟨by rw [HE2.out]; rfl,⟨HK.out.os,HK.out.tape,HK.out.output,HK.out.size,HK.out.block⟩⟩
        · have hok:okE rest=true:=decide_eq_true (by rw [HN.out,← hl1]; omega)
          have HE2:Hid (eachC f bs c0=(f k ((rest.drop 2).take l) c).bind (eachC f (rest.drop (2+l)))):=by
            show _=_
            rw [HE.out,eachC_go hok,← hl1,← hk1]
          have hei:decide ((n:Int) < 2+(l:Int))=false:=decide_eq_false (by omega)
          have hvl:((rest.drop 2).take l).length=l:=by rw [List.length_take,List.length_drop,HN.out]; omega
          have hbd:Below wr.heap.size wr wr.drew:=(Below.refl _ _).drew
          have HKd:Hid (Keeps F w wr.drew):=HK.out.drew
          have HBd:Hid (BRd wr.drew (some ⟨b,o,none⟩) rest):=HB.out.below hbd
          have HC1:Hid (∀ a3 c3,(l=0∨a3=some ⟨b,o+2,none⟩)→l≤c3→Calls Tryz.prog K (#[.int .i64 (k:Int),.slice a3 l c3]++cs) wr.drew fun e w2=>TookI Inv (f k ((rest.drop 2).take l) c) e w2∧Keeps F wr.drew w2):=fun a3 c3 ha hlc=>by
            have h9:=HC.out wr.drew c k a3 c3 ((rest.drop 2).take l) HKd.out (HST.out c wr wr.drew HI.out hbd) ?_ ?_ (by omega) (by omega) hk256
            · rw [hvl] at h9; exact h9
            · rcases ha with rfl | rfl
              · rw [List.take_zero]; exact brd_none _ _
              · exact brd_from HBd.out 2 l (by rw [HN.out]; omega)
            · intro x hx hp
              rcases ha with rfl | rfl
              · rw [hvl] at hp; omega
              · cases hx; exact hbF
          have HBB:Hid (∀ W,Keeps F wr.drew W→BRd W (some ⟨b,o,none⟩) rest):=fun W hk=>HBd.out.keeps hk (fun x e _=>by cases e; exact hbF)
          have HND:Hid ((rest.drop (2+l)).length=n - (2+l)):=by show _=_; rw [List.length_drop,HN.out]
          have hs0:wr.drew.cell? ⟨b,o,none⟩=some (.int .u8 (k:Int)):=y0
          have HS0:=hide hs0
          have htn:(2+(l:Int)).toNat - 2=l:=by omega
          have HSW:Hid (∀ W,Keeps F wr.drew W→W.cell? ⟨b,o,none⟩=some (.int .u8 (k:Int))):=fun W hk=>by rw [hk.cell ⟨b,o,none⟩ hbs hbF]; exact HS0.out
          have hwk:IntKind.i64.wrap (k:Int)=(k:Int):=by rw [IntKind.wrap_i64]; omega
          clear HE HB HC hc hl1 hk1 hne h0 h2 hok hbd hs0
          by_cases hc2:cp=2
          · have hl0:l=0:=by omega
            have hn2:n=2:=by omega
            subst hl0
            subst hn2
            subst hc2
            have HC2:=hide (HC1.out (some ⟨b,o,none⟩) 0 (.inl rfl) (by omega))
            clear HC1
            cases hfr:f k ((rest.drop 2).take 0) c with
            | none =>
              rw [hfr] at HC2 HE2
              go_wp2_with fail
              go_region_held3 (fun w'=>w'.cell? ⟨b,o,none⟩=some (.int .u8 (k:Int)))
                (with_reducible first | exact HS0.out | exact HS2.out | fail)
                (first
                  | (try rw [hwk]
                     try rw [htn]
                     with_reducible refine HC2.out.mono ?_
                     rintro e w2 ⟨ht,hk2⟩
                     obtain rfl:e=_:=ht
                     have HK2:=hide hk2
                     have HS2:=hide (HSW.out w2 hk2)
                     clear hk2))
              all_goals go_wp2
              all_goals go_ret
              all_goals exact ⟨by rw [HE2.out]; rfl,HKd.out.trans HK2.out (fun _ _ h=>h)⟩
            | some c2 =>
              rw [hfr] at HC2 HE2
              go_wp2_with fail
              go_region_held3 (fun w'=>w'.cell? ⟨b,o,none⟩=some (.int .u8 (k:Int)))
                (with_reducible first | exact HS0.out | exact HS2.out | fail)
                (first
                  | (try rw [hwk]
                     try rw [htn]
                     with_reducible refine HC2.out.mono ?_
                     rintro e w2 ⟨ht,hk2⟩
                     obtain ⟨rfl,hi2⟩:=ht
                     have HI2:=hide hi2
                     have HK2:=hide hk2
                     have HS2:=hide (HSW.out w2 hk2)
                     clear hk2))
              all_goals go_wp2
              all_goals exact ⟨⟨rest.drop (2+0),_,_,_,c2,rfl,HND.out.trans (by omega),by omega,by omega,HE2,by show BRd _ _ _; rw [List.eq_nil_of_length_eq_zero (HND.out.trans (by omega))]; exact brd_none _ _,fun x _ h=>absurd h (by omega),HI2,HKd.out.trans HK2.out (fun _ _ h=>h)⟩,by simp [sliceLen]⟩
          · have HC2:=hide (HC1.out (some ⟨b,o+2,none⟩) (cp - 2) (.inr rfl) (by omega))
            have hs1:(2:Int)≤2+(l:Int):=by omega
            have hs2:2+(l:Int)≤(cp:Int):=by omega
            have hs3:2+(l:Int)≤(n:Int):=by omega
            clear HC1
            cases hfr:f k ((rest.drop 2).take l) c with
            | none =>
              rw [hfr] at HC2 HE2
              go_wp2_with fail
              go_region_held3 (fun w'=>w'.cell? ⟨b,o,none⟩=some (.int .u8 (k:Int)))
                (with_reducible first | exact HS0.out | exact HS2.out | fail)
                (first
                  | (try rw [hwk]
                     try rw [htn]
                     with_reducible refine HC2.out.mono ?_
                     rintro e w2 ⟨ht,hk2⟩
                     obtain rfl:e=_:=ht
                     have HK2:=hide hk2
                     have HS2:=hide (HSW.out w2 hk2)
                     clear hk2))
              all_goals go_wp2
              all_goals go_ret
              all_goals exact ⟨by rw [HE2.out]; rfl,HKd.out.trans HK2.out (fun _ _ h=>h)⟩
            | some c2 =>
              by_cases hce:cp=2+l
              · have hl0:¬ l=0:=by omega
                subst hce
                rw [show 2+l - 2=l from by omega] at HC2
                rw [hfr] at HC2 HE2
                go_wp2_with fail
                go_region_held3 (fun w'=>w'.cell? ⟨b,o,none⟩=some (.int .u8 (k:Int)))
                  (with_reducible first | exact HS0.out | exact HS2.out | fail)
                  (first
                    | (try rw [hwk]
                       try rw [htn]
                       with_reducible refine HC2.out.mono ?_
                       rintro e w2 ⟨ht,hk2⟩
                       obtain ⟨rfl,hi2⟩:=ht
                       have HI2:=hide hi2
                       have HK2:=hide hk2
                       have HS2:=hide (HSW.out w2 hk2)
                       clear hk2))
                all_goals go_wp2
                all_goals exact ⟨⟨rest.drop (2+l),_,_,_,c2,rfl,HND.out.trans (by omega),by omega,by omega,HE2,by show BRd _ _ _; rw [List.eq_nil_of_length_eq_zero (HND.out.trans (by omega))]; exact brd_none _ _,fun x _ h=>absurd h (by omega),HI2,HKd.out.trans HK2.out (fun _ _ h=>h)⟩,by simp [sliceLen]; omega⟩
              · rw [hfr] at HC2 HE2
                go_wp2_with fail
                go_region_held3 (fun w'=>w'.cell? ⟨b,o,none⟩=some (.int .u8 (k:Int)))
                  (with_reducible first | exact HS0.out | exact HS2.out | fail)
                  (first
                    | (try rw [hwk]
                       try rw [htn]
                       with_reducible refine HC2.out.mono ?_
                       rintro e w2 ⟨ht,hk2⟩
                       obtain ⟨rfl,hi2⟩:=ht
                       have HI2:=hide hi2
                       have HK2:=hide hk2
                       have HS2:=hide (HSW.out w2 hk2)
                       clear hk2))
                all_goals go_wp2
                all_goals exact ⟨⟨rest.drop (2+l),_,_,_,c2,rfl,HND,by omega,by omega,HE2,by show BRd _ _ _; have h9:=brd_from (HBB.out _ HK2.out) (2+l) (n - (2+l)) (by rw [HN.out]; omega); rw [List.take_of_length_le (by rw [HND.out]; exact Nat.le_refl _)] at h9; exact h9,fun x hx _=>by cases hx; exact hbF,HI2,HKd.out.trans HK2.out (fun _ _ h=>h)⟩,by simp [sliceLen]; omega⟩
theorem num_numB {bs:List Nat}(h:bs.length=4):num (fun i=>bs.getD i 0)=numB bs:=by
 match bs,h with
 | [a0,a1,a2,a3],_ =>
  rw [numB_four]
  show a0 * 16777216+a1 * 65536+a2 * 256+a3=_
  omega
theorem CBox.drewN {w:World}{X:Nat}{c:Cp} (h:CBox w X c) (m:Nat):CBox (w.drewN m) X c:=h.block rfl
set_option maxHeartbeats 1600000 in
theorem rd65_any (X:Nat)(c:Cp)(a:Option Addr)(cap:Nat)(bs:List Nat)(w:World)(hx:CBox w X c)(hr:BRd w a bs) :
  Calls Tryz.prog 48 #[.pointer (some ⟨X,0,none⟩),.int .i64 65,.slice a bs.length cap] w fun e w'=>Took X (readOne 65 bs c) e w'∧Keeps (fun b=>b=X) w w':=by
 have e65:readOne 65 bs c=if bs.length=4∧numB bs≠0 then some (putFour bs c) else none:=by unfold readOne; rw [if_pos rfl]
 by_cases h4:bs.length=4
 ·obtain ⟨b,o,rfl,hc⟩:=hr.1.2 (by omega)
  have HN:=hide (num_eq b o 4 cap (fun i=>bs.getD i 0) w (by omega) (fun i _=>getD_lt256 hr.2 i) (fun i hi=>hc i (by omega)))
  rw [num_numB h4] at HN
  have HE:Hid (readOne 65 bs c=if numB bs≠0 then some (putFour bs c) else none):=by
   show _=_
   rw [e65]
   by_cases h:numB bs≠0
   ·rw [if_pos ⟨h4,h⟩,if_pos h]
   ·rw [if_neg (fun h9=>h h9.2),if_neg h]
  have HX:=hide hx
  generalize readOne 65 bs c=ro at *
  have HB:Hid (∀ m,CBox (((w.drewN m).setCell ⟨X,0,none⟩ (.bool true)).setCell ⟨X,1,none⟩ (.int .i64 (numB bs:Int))) X (putFour bs c)∧Keeps (fun b=>b=X) w (((w.drewN m).setCell ⟨X,0,none⟩ (.bool true)).setCell ⟨X,1,none⟩ (.int .i64 (numB bs:Int)))):=fun m=>by
   obtain ⟨x0,x1,x2,x3,x4,x5,x6,x7,x8⟩:=(hx.drewN m).cells
   have k:∀ j v,(w.drewN m).cell? ⟨X,j,none⟩=some v→(((w.drewN m).setCell ⟨X,0,none⟩ (.bool true)).setCell ⟨X,1,none⟩ (.int .i64 (numB bs:Int))).cell? ⟨X,j,none⟩=some (if 1=j then .int .i64 (numB bs:Int) else if 0=j then .bool true else v):=fun j v h=>box_set _ X 1 _ j _ (box_set _ X 0 _ j _ h)
   refine ⟨⟨⟨k 0 _ x0,k 1 _ x1,k 2 _ x2,k 3 _ x3,k 4 _ x4,k 5 _ x5,k 6 _ x6,k 7 _ x7,k 8 _ x8⟩,fun j=>by rw [World.frozen?_setCell,World.frozen?_setCell]; exact (HX.out.drewN m).free j⟩,?_⟩
   exact ((Keeps.mk rfl rfl rfl (Nat.le_refl _) (fun _ _ _=>rfl):Keeps (fun b=>b=X) w (w.drewN m)).setCell X 0 _ (.inl rfl)).setCell X 1 _ (.inl rfl)
  clear hr hc e65 hx
  rw [h4]
  generalize numB bs=N at *
  clear h4
  go_enter Tryz.func48,Tryz.ntmps48
  go_wp2_with fail
  refine HN.out.mono ?_
  rintro e w1 ⟨rfl,m,hw1⟩
  have hb:=HB.out m
  rw [← hw1] at hb
  have HX1:Hid (CBox w1 X c):=by rw [hw1]; exact HX.out.drewN m
  have HH8:=hide hb.1
  have HH9:=hide hb.2
  have hXs:=HX1.out.size
  obtain ⟨x0,x1,x2,x3,x4,x5,x6,x7,x8⟩:=HX1.out.cells
  have f0:=HX1.out.free 0
  have f1:=HX1.out.free 1
  clear hw1 hb HN HB HX
  go_wp2
  go_ret
  refine ⟨?_,HH9.out⟩
  show Took X ro (.returned (.bool ((N:Int) != 0))) _
  rw [HE.out]
  by_cases h0:N=0
  ·rw [if_neg (fun h=>h h0),h0]; rfl
  ·rw [if_pos h0,show ((N:Int) != 0)=true from by simpa using h0]; exact ⟨rfl,HH8.out⟩
 ·have HE:Hid (readOne 65 bs c=none):=by show _=_; rw [e65,if_neg (fun h=>h4 h.1)]
  generalize readOne 65 bs c=ro at *
  clear hr hx e65
  generalize bs.length=n at *
  have h4i:((n:Int) != 4)=true:=by simp; omega
  clear h4
  go_enter Tryz.func48,Tryz.ntmps48
  go_wp2
  go_ret
  exact ⟨took_no _ _ _ HE.out,Keeps.refl _ _⟩
set_option maxHeartbeats 800000 in
theorem rdno_any (X:Nat)(c:Cp)(k:Nat)(a:Option Addr)(n cap:Nat)(w:World)(hx:CBox w X c)(h65:k≠65)(h64:k≠64)(h71:k≠71) :
  Calls Tryz.prog 48 #[.pointer (some ⟨X,0,none⟩),.int .i64 (k:Int),.slice a n cap] w fun e w'=>Took X (some c) e w'∧Keeps (fun b=>b=X) w w':=by
 have HX:=hide hx
 have i65:((k:Int) == 65)=false:=by simp; omega
 have i64:((k:Int) == 64)=false:=by simp; omega
 have i71:((k:Int) == 71)=false:=by simp; omega
 clear hx h65 h64 h71
 go_enter Tryz.func48,Tryz.ntmps48
 go_wp2
 go_ret
 exact ⟨⟨rfl,HX.out⟩,Keeps.refl _ _⟩
end Go.Proofs.YtogbjeaceboemaaGreatDoor
