import Derived.Test.YtogbjeaceboemaaGreatDoorPA4
import Derived.Test.YtogbjeaceboemaaGreatDoorPA1
import Derived.Deep.QuietTactic
import Derived.BigQuiet
import Derived.Test.YtogbjeaceboemaaGreatDoorPA31
import Derived.Deep.DeepCutAuto
namespace Go.Proofs.YtogbjeaceboemaaGreatDoor
open Go.RowKit
set_option maxRecDepth 100000
set_option maxHeartbeats 800000 in
theorem hop_any (n:Nat)(w:World):Calls Tryz.prog 76 #[.int .u32 (n:Int)] w fun e w'=>e=.returned (.bool (hopB n))∧w'=w:=by
 have hs:(n:Int) / 2 ^ 24=((n / 16777216:Nat):Int):=by omega
 by_cases h0:n=0
 ·subst h0
  go_enter Tryz.func76,Tryz.ntmps76
  go_wp2
  go_ret
  exact ⟨rfl,rfl⟩
 ·have e0:((n:Int) != 0)=true:=by simp; omega
  by_cases h1:n / 16777216=127
  ·have HH:Hid (hopB n=false):=decide_eq_false (fun h=>h.2.1 h1)
   have e1:(n:Int) / 16777216=127:=by omega
   go_enter Tryz.func76,Tryz.ntmps76
   go_wp2
   go_ret
   exact ⟨ret_bool HH.out.symm,rfl⟩
  ·have e1:((n:Int) / 16777216 != 127)=true:=by simp; omega
   have HH:Hid (hopB n=decide ((n:Int) / 16777216 < 224)):=by
    show hopB n=_
    unfold hopB
    rw [Bool.eq_iff_iff]
    simp only [decide_eq_true_eq]
    omega
   clear hs
   go_enter Tryz.func76,Tryz.ntmps76
   go_wp2
   go_ret
   exact ⟨ret_bool HH.out.symm,rfl⟩
set_option linter.unusedVariables false
theorem numL_lt (d:List Nat)(hd:∀ x∈d,x < 256):numL d < 4294967296:=by
 have h0:=byte_lt hd 0
 have h1:=byte_lt hd 1
 have h2:=byte_lt hd 2
 have h3:=byte_lt hd 3
 unfold numL num
 simp only
 omega
set_option maxHeartbeats 3200000 in
theorem kn_ok4 (fl:Nat)(X B:Nat)(a:At)(da:Option Addr)(dn dc:Nat)(la:Option Addr)(ln lc:Nat)(d all:List Nat)(w:World)(hf:fl < 256)(hX:Box w X B a)(hB:B≤w.heap.size)(hdn:d.length=dn)(hdc:dn≤dc)(hrd:BRd w da d)(h1:((fl:Int) / 64 * 64 != 128)=false)(h2:((fl:Int) / 32 % 2 == 1)=false)(hd1:dn=4) :
  Calls Tryz.prog 50 #[.pointer (some ⟨X,0,none⟩),.int .i64 (fl:Int),.int .i64 4,.slice da dn dc,.slice la ln lc] w fun e w'=>e=.returned (.agg #[.int .i64 0,.int .i64 0,.slice none 0 0])∧Box w' X B ({ a with med:=((numL d:Nat):Int) })∧Keeps (NotBox X B) w w':=by
 have hXl:=hX.pos
 have hXB:=hX.lt
 have HX:=hide (hX.later (knW_below w))
 have HD:=hide (hrd.below (knW_below w))
 have HDN:=hide hdn
 have hks:=knW_size w
 have hXN:X < (knW w).heap.size:=by omega
 have HBK0:=hide (knW_block w)
 subst hd1
 obtain ⟨b,o,rfl,hc⟩:=HD.out.1.2 (by rw [hdn]; omega)
 have KU:Hid (Calls Tryz.prog 29 #[.slice (some ⟨b,o,none⟩) 4 dc] (knW w) fun e w'=>e=.returned (.int .i64 (numL d:Int))∧Below (knW w).heap.size (knW w) w'):=(num_eq b o 4 dc (fun q=>d.getD q 0) (knW w) (by omega) (fun i _=>byte_lt HD.out.2 i) (fun i hi=>hc i (by rw [hdn]; exact hi))).mono fun e w' h=>⟨h.1,by obtain ⟨_,k,hk⟩:=h; rw [hk]; exact below_drewN (Below.refl _ _) k⟩
 have hnl:=numL_lt d HD.out.2
 have HNL:Hid (numL d=numL d):=rfl
 generalize numL d=nn at *
 clear hX hrd hc HNL
 go_enter Tryz.func50,Tryz.ntmps50
 go_upto_if 38 with fail
 have hk:((w.alloc (.cells #[.int .i64 0,.int .i64 0,.slice none 0 0] 38)).alloc (.cells #[.int .i64 0,.int .i64 64,.int .i64 64,.int .i64 64,.int .i64 128,.int .i64 64,.int .i64 64,.int .i64 192,.int .i64 192] 3)).alloc (.cells #[.int .i64 0,.int .i64 1,.int .i64 (-1),.int .i64 4,.int .i64 4,.int .i64 4,.int .i64 0,.int .i64 8,.int .i64 (-1)] 3)=knW w:=rfl
 rw [hk]
 clear hk
 go_wp2_with fail
 refine KU.out.mono ?_
 rintro e w4 ⟨rfl,hb4⟩
 have HX4:=hide (HX.out.later hb4)
 have rj:=HX4.out.c3
 have fz:=HX4.out.fz 3
 have HBX:Hid (Box (w4.setCell ⟨X,3,none⟩ (.int .i64 (nn:Int))) X B { a with med:=((nn:Nat):Int) }):=HX4.out.set 3 _ rfl rfl rfl rfl rfl rfl rfl
 have HBK:Hid ((w4.setCell ⟨X,3,none⟩ (.int .i64 (nn:Int))).heap[w.heap.size]?=some (.cells #[.int .i64 0,.int .i64 0,.slice none 0 0] 38 (0,0))):=by show _=_; rw [heap_setCell _ _ _ _ _ (by omega)]; exact nb_block hb4
 have HKP:Hid (Keeps (NotBox X B) w (w4.setCell ⟨X,3,none⟩ (.int .i64 (nn:Int)))):=(keeps_box ((knW_below w).trans (hb4.mono (knW_below w).size))).setCell X 3 _ (.inl (.inl rfl))
 have hX4:X < w4.heap.size:=HX4.out.pos
 obtain ⟨c0,c1,c2,f0,f1,f2⟩:=nb_of HBK.out
 clear hb4 hks hXB
 go_wp2_with fail
 exact bodyPost_ret (v:=.agg #[.int .i64 0,.int .i64 0,.slice none 0 0]) (by simp [results,Tryz.results50,go_sem,c0,c1,c2]) rfl ⟨rfl,by rw [nb_zero HBK.out]; exact HBX.out,by rw [nb_zero HBK.out]; exact HKP.out⟩
set_option maxHeartbeats 3200000 in
theorem kn_ok5 (fl:Nat)(X B:Nat)(a:At)(da:Option Addr)(dn dc:Nat)(la:Option Addr)(ln lc:Nat)(d all:List Nat)(w:World)(hf:fl < 256)(hX:Box w X B a)(hB:B≤w.heap.size)(hdn:d.length=dn)(hdc:dn≤dc)(hrd:BRd w da d)(h1:((fl:Int) / 64 * 64 != 64)=false)(h2:((fl:Int) / 32 % 2 == 1)=false)(hd1:dn=4) :
  Calls Tryz.prog 50 #[.pointer (some ⟨X,0,none⟩),.int .i64 (fl:Int),.int .i64 5,.slice da dn dc,.slice la ln lc] w fun e w'=>e=.returned (.agg #[.int .i64 0,.int .i64 0,.slice none 0 0])∧Box w' X B ({ a with pref:=((numL d:Nat):Int) })∧Keeps (NotBox X B) w w':=by
 have hXl:=hX.pos
 have hXB:=hX.lt
 have HX:=hide (hX.later (knW_below w))
 have HD:=hide (hrd.below (knW_below w))
 have HDN:=hide hdn
 have hks:=knW_size w
 have hXN:X < (knW w).heap.size:=by omega
 have HBK0:=hide (knW_block w)
 subst hd1
 obtain ⟨b,o,rfl,hc⟩:=HD.out.1.2 (by rw [hdn]; omega)
 have KU:Hid (Calls Tryz.prog 29 #[.slice (some ⟨b,o,none⟩) 4 dc] (knW w) fun e w'=>e=.returned (.int .i64 (numL d:Int))∧Below (knW w).heap.size (knW w) w'):=(num_eq b o 4 dc (fun q=>d.getD q 0) (knW w) (by omega) (fun i _=>byte_lt HD.out.2 i) (fun i hi=>hc i (by rw [hdn]; exact hi))).mono fun e w' h=>⟨h.1,by obtain ⟨_,k,hk⟩:=h; rw [hk]; exact below_drewN (Below.refl _ _) k⟩
 have hnl:=numL_lt d HD.out.2
 have HNL:Hid (numL d=numL d):=rfl
 generalize numL d=nn at *
 clear hX hrd hc HNL
 go_enter Tryz.func50,Tryz.ntmps50
 go_upto_if 38 with fail
 have hk:((w.alloc (.cells #[.int .i64 0,.int .i64 0,.slice none 0 0] 38)).alloc (.cells #[.int .i64 0,.int .i64 64,.int .i64 64,.int .i64 64,.int .i64 128,.int .i64 64,.int .i64 64,.int .i64 192,.int .i64 192] 3)).alloc (.cells #[.int .i64 0,.int .i64 1,.int .i64 (-1),.int .i64 4,.int .i64 4,.int .i64 4,.int .i64 0,.int .i64 8,.int .i64 (-1)] 3)=knW w:=rfl
 rw [hk]
 clear hk
 go_wp2_with fail
 refine KU.out.mono ?_
 rintro e w4 ⟨rfl,hb4⟩
 have HX4:=hide (HX.out.later hb4)
 have rj:=HX4.out.c4
 have fz:=HX4.out.fz 4
 have HBX:Hid (Box (w4.setCell ⟨X,4,none⟩ (.int .i64 (nn:Int))) X B { a with pref:=((nn:Nat):Int) }):=HX4.out.set 4 _ rfl rfl rfl rfl rfl rfl rfl
 have HBK:Hid ((w4.setCell ⟨X,4,none⟩ (.int .i64 (nn:Int))).heap[w.heap.size]?=some (.cells #[.int .i64 0,.int .i64 0,.slice none 0 0] 38 (0,0))):=by show _=_; rw [heap_setCell _ _ _ _ _ (by omega)]; exact nb_block hb4
 have HKP:Hid (Keeps (NotBox X B) w (w4.setCell ⟨X,4,none⟩ (.int .i64 (nn:Int)))):=(keeps_box ((knW_below w).trans (hb4.mono (knW_below w).size))).setCell X 4 _ (.inl (.inl rfl))
 have hX4:X < w4.heap.size:=HX4.out.pos
 obtain ⟨c0,c1,c2,f0,f1,f2⟩:=nb_of HBK.out
 clear hb4 hks hXB
 go_wp2_with fail
 exact bodyPost_ret (v:=.agg #[.int .i64 0,.int .i64 0,.slice none 0 0]) (by simp [results,Tryz.results50,go_sem,c0,c1,c2]) rfl ⟨rfl,by rw [nb_zero HBK.out]; exact HBX.out,by rw [nb_zero HBK.out]; exact HKP.out⟩
set_option maxHeartbeats 3200000 in
theorem kn_ok3 (fl:Nat)(X B:Nat)(a:At)(da:Option Addr)(dn dc:Nat)(la:Option Addr)(ln lc:Nat)(d all:List Nat)(w:World)(hf:fl < 256)(hX:Box w X B a)(hB:B≤w.heap.size)(hdn:d.length=dn)(hdc:dn≤dc)(hrd:BRd w da d)(h1:((fl:Int) / 64 * 64 != 64)=false)(h2:((fl:Int) / 32 % 2 == 1)=false)(hd1:dn=4)(hhop:hopB (numL d)=true) :
  Calls Tryz.prog 50 #[.pointer (some ⟨X,0,none⟩),.int .i64 (fl:Int),.int .i64 3,.slice da dn dc,.slice la ln lc] w fun e w'=>e=.returned (.agg #[.int .i64 0,.int .i64 0,.slice none 0 0])∧Box w' X B ({ a with next:=numL d })∧Keeps (NotBox X B) w w':=by
 have hXl:=hX.pos
 have hXB:=hX.lt
 have HX:=hide (hX.later (knW_below w))
 have HD:=hide (hrd.below (knW_below w))
 have HDN:=hide hdn
 have hks:=knW_size w
 have hXN:X < (knW w).heap.size:=by omega
 have HBK0:=hide (knW_block w)
 have HHOP:=hide hhop
 clear hhop
 subst hd1
 obtain ⟨b,o,rfl,hc⟩:=HD.out.1.2 (by rw [hdn]; omega)
 have KU:Hid (Calls Tryz.prog 29 #[.slice (some ⟨b,o,none⟩) 4 dc] (knW w) fun e w'=>e=.returned (.int .i64 (numL d:Int))∧Below (knW w).heap.size (knW w) w'):=(num_eq b o 4 dc (fun q=>d.getD q 0) (knW w) (by omega) (fun i _=>byte_lt HD.out.2 i) (fun i hi=>hc i (by rw [hdn]; exact hi))).mono fun e w' h=>⟨h.1,by obtain ⟨_,k,hk⟩:=h; rw [hk]; exact below_drewN (Below.refl _ _) k⟩
 have hnl:=numL_lt d HD.out.2
 have HNL:Hid (numL d=numL d):=rfl
 generalize numL d=nn at *
 clear hX hrd hc HNL
 go_enter Tryz.func50,Tryz.ntmps50
 go_upto_if 38 with fail
 have hk:((w.alloc (.cells #[.int .i64 0,.int .i64 0,.slice none 0 0] 38)).alloc (.cells #[.int .i64 0,.int .i64 64,.int .i64 64,.int .i64 64,.int .i64 128,.int .i64 64,.int .i64 64,.int .i64 192,.int .i64 192] 3)).alloc (.cells #[.int .i64 0,.int .i64 1,.int .i64 (-1),.int .i64 4,.int .i64 4,.int .i64 4,.int .i64 0,.int .i64 8,.int .i64 (-1)] 3)=knW w:=rfl
 rw [hk]
 clear hk
 go_wp2_with fail
 refine KU.out.mono ?_
 rintro e w4 ⟨rfl,hb4⟩
 have HX4:=hide (HX.out.later hb4)
 have rj:=HX4.out.c2
 have fz:=HX4.out.fz 2
 have HBX:Hid (Box (w4.setCell ⟨X,2,none⟩ (.int .u32 (nn:Int))) X B { a with next:=nn }):=HX4.out.set 2 _ rfl rfl rfl rfl rfl rfl rfl
 have HBK:Hid ((w4.setCell ⟨X,2,none⟩ (.int .u32 (nn:Int))).heap[w.heap.size]?=some (.cells #[.int .i64 0,.int .i64 0,.slice none 0 0] 38 (0,0))):=by show _=_; rw [heap_setCell _ _ _ _ _ (by omega)]; exact nb_block hb4
 have HKP:Hid (Keeps (NotBox X B) w (w4.setCell ⟨X,2,none⟩ (.int .u32 (nn:Int)))):=(keeps_box ((knW_below w).trans (hb4.mono (knW_below w).size))).setCell X 2 _ (.inl (.inl rfl))
 have hX4:X < w4.heap.size:=HX4.out.pos
 obtain ⟨W,hW⟩:∃ W,W=w4.setCell ⟨X,2,none⟩ (.int .u32 (nn:Int)):=⟨_,rfl⟩
 have KH:=hide (hop_any nn W)
 rw [HHOP.out] at KH
 have y2:W.cell? ⟨X,2,none⟩=some (.int .u32 (nn:Int)):=by rw [hW]; exact World.cell?_setCell_same _ _ _ rj
 rw [← hW] at HBX HBK HKP
 obtain ⟨c0,c1,c2,f0,f1,f2⟩:=nb_of HBK.out
 clear hb4 hks hXB
 go_wp2_with fail
 rw [← hW]
 clear hW
 refine KH.out.mono ?_
 rintro e w5 ⟨rfl,rfl⟩
 go_wp2_with fail
 exact bodyPost_ret (v:=.agg #[.int .i64 0,.int .i64 0,.slice none 0 0]) (by simp [results,Tryz.results50,go_sem,c0,c1,c2]) rfl ⟨rfl,by rw [nb_zero HBK.out]; exact HBX.out,by rw [nb_zero HBK.out]; exact HKP.out⟩
set_option maxHeartbeats 3200000 in
theorem kn_no3 (fl:Nat)(X B:Nat)(a:At)(da:Option Addr)(dn dc:Nat)(la:Option Addr)(ln lc:Nat)(d all:List Nat)(w:World)(hf:fl < 256)(hX:Box w X B a)(hB:B≤w.heap.size)(hdn:d.length=dn)(hdc:dn≤dc)(hrd:BRd w da d)(hl:all.length=ln)(hln:ln≤60000)(hr:BRd w la all)(h1:((fl:Int) / 64 * 64 != 64)=false)(h2:((fl:Int) / 32 % 2 == 1)=false)(hlX:∀ x,la=some x→0 < all.length→¬ x.block=X)(hd1:dn=4)(hhop:hopB (numL d)=false) :
  Calls Tryz.prog 50 #[.pointer (some ⟨X,0,none⟩),.int .i64 (fl:Int),.int .i64 3,.slice da dn dc,.slice la ln lc] w fun e w'=>∃ a9 c9,e=.returned (.agg #[.int .i64 3,.int .i64 8,.slice a9 ln c9])∧w'.ownsRow w.heap.size 5 1 (.slice a9 ln c9) ln (bcells all)∧Keeps (NotBox X B) w w':=by
 have HHOP:=hide hhop
 have HL:=hide hl
 have HR:=hide hr
 have HLX:=hide hlX
 have hXl:=hX.pos
 have hXB:=hX.lt
 have HX:=hide (hX.later (knW_below w))
 have HD:=hide (hrd.below (knW_below w))
 have HDN:=hide hdn
 have hks:=knW_size w
 have hXN:X < (knW w).heap.size:=by omega
 have HBK0:=hide (knW_block w)
 subst hd1
 obtain ⟨b,o,rfl,hc⟩:=HD.out.1.2 (by rw [hdn]; omega)
 have KU:Hid (Calls Tryz.prog 29 #[.slice (some ⟨b,o,none⟩) 4 dc] (knW w) fun e w'=>e=.returned (.int .i64 (numL d:Int))∧Below (knW w).heap.size (knW w) w'):=(num_eq b o 4 dc (fun q=>d.getD q 0) (knW w) (by omega) (fun i _=>byte_lt HD.out.2 i) (fun i hi=>hc i (by rw [hdn]; exact hi))).mono fun e w' h=>⟨h.1,by obtain ⟨_,k,hk⟩:=h; rw [hk]; exact below_drewN (Below.refl _ _) k⟩
 have hnl:=numL_lt d HD.out.2
 have HNL:Hid (numL d=numL d):=rfl
 generalize numL d=nn at *
 clear hX hrd hc HNL
 clear hhop hl hr hlX
 go_enter Tryz.func50,Tryz.ntmps50
 go_upto_if 38 with fail
 have hk:((w.alloc (.cells #[.int .i64 0,.int .i64 0,.slice none 0 0] 38)).alloc (.cells #[.int .i64 0,.int .i64 64,.int .i64 64,.int .i64 64,.int .i64 128,.int .i64 64,.int .i64 64,.int .i64 192,.int .i64 192] 3)).alloc (.cells #[.int .i64 0,.int .i64 1,.int .i64 (-1),.int .i64 4,.int .i64 4,.int .i64 4,.int .i64 0,.int .i64 8,.int .i64 (-1)] 3)=knW w:=rfl
 rw [hk]
 clear hk
 go_wp2_with fail
 refine KU.out.mono ?_
 rintro e w4 ⟨rfl,hb4⟩
 have HX4:=hide (HX.out.later hb4)
 have rj:=HX4.out.c2
 have fz:=HX4.out.fz 2
 have HBX:Hid (Box (w4.setCell ⟨X,2,none⟩ (.int .u32 (nn:Int))) X B { a with next:=nn }):=HX4.out.set 2 _ rfl rfl rfl rfl rfl rfl rfl
 have HBK:Hid ((w4.setCell ⟨X,2,none⟩ (.int .u32 (nn:Int))).heap[w.heap.size]?=some (.cells #[.int .i64 0,.int .i64 0,.slice none 0 0] 38 (0,0))):=by show _=_; rw [heap_setCell _ _ _ _ _ (by omega)]; exact nb_block hb4
 have HKP:Hid (Keeps (NotBox X B) w (w4.setCell ⟨X,2,none⟩ (.int .u32 (nn:Int)))):=(keeps_box ((knW_below w).trans (hb4.mono (knW_below w).size))).setCell X 2 _ (.inl (.inl rfl))
 have hX4:X < w4.heap.size:=HX4.out.pos
 obtain ⟨W,hW⟩:∃ W,W=w4.setCell ⟨X,2,none⟩ (.int .u32 (nn:Int)):=⟨_,rfl⟩
 have KH:=hide (hop_any nn W)
 rw [HHOP.out] at KH
 have y2:W.cell? ⟨X,2,none⟩=some (.int .u32 (nn:Int)):=by rw [hW]; exact World.cell?_setCell_same _ _ _ rj
 have hb0W:Keeps (fun k=>k=X) w W:=by rw [hW]; exact (Keeps.of_below ((knW_below w).trans (hb4.mono (knW_below w).size)) _).setCell X 2 _ (.inl rfl)
 have HBR:=hide (HR.out.keeps hb0W HLX.out)
 have hWs:(knW w).heap.size≤W.heap.size:=by rw [hW]; simp; exact hb4.size
 have HWS:=hide hWs
 rw [← hW] at HBX HBK HKP
 clear hb4 hks hXB hb0W hWs
 go_wp2_with fail
 rw [← hW]
 clear hW
 refine KH.out.mono ?_
 rintro e w5 ⟨rfl,rfl⟩
 go_wp2_with fail
 have KN:=hide (note_any 3 8 la lc all w5 (by have:=HL.out; omega) HBR.out)
 rw [HL.out] at KN
 refine KN.out.mono ?_
 rintro e w6 ⟨a9,c9,rfl,ho4,hb6⟩
 have HO4:=hide (own_base ho4 HWS.out)
 have HBK6:Hid (w6.heap[w.heap.size]?=some (.cells #[.int .i64 0,.int .i64 0,.slice none 0 0] 38 (0,0))):=by show _=_; rw [hb6.block _ (by have:=HWS.out; have:=knW_size w; omega)]; exact HBK.out
 have HKP6:Hid (Keeps (NotBox X B) w w6):=HKP.out.trans (keeps_box hb6) (fun b _ h=>h)
 have hz:w.heap.size < (knW w).heap.size:=by rw [knW_size]; omega
 have HZ:=hide hz
 clear ho4 hb6 hz
 obtain ⟨c0,c1,c2,f0,f1,f2⟩:=nb_of HBK6.out
 go_wp2_with fail
 exact bodyPost_ret (v:=.agg #[.int .i64 3,.int .i64 8,.slice a9 ln c9]) (by simp [results,Tryz.results50,go_sem,c0,c1,c2]) rfl ⟨a9,c9,rfl,own_base (own_under (own_under (own_under HO4.out HZ.out _ _) HZ.out _ _) HZ.out _ _) (Nat.le_of_lt HZ.out),((HKP6.out.setCell w.heap.size 0 _ (.inr (Nat.le_refl _))).setCell w.heap.size 1 _ (.inr (Nat.le_refl _))).setCell w.heap.size 2 _ (.inr (Nat.le_refl _))⟩
end Go.Proofs.YtogbjeaceboemaaGreatDoor
