import Derived.Test.YtogbjeaceboemaaGreatDoorPA31
import Derived.Deep.DeepCutAuto
namespace Go.Proofs.YtogbjeaceboemaaGreatDoor
open Go.RowKit
set_option maxRecDepth 100000
set_option maxHeartbeats 3200000 in
theorem kn_fa1 (fl:Nat)(X:Nat)(da:Option Addr)(dn dc:Nat)(la:Option Addr)(ln lc:Nat)(all:List Nat)(w:World)(hf:fl < 256)(hl:all.length=ln)(hln:ln≤60000)(hr:BRd w la all)(h1:((fl:Int) / 64 * 64 != 64)=true) :
  Calls Tryz.prog 50 #[.pointer (some ⟨X,0,none⟩),.int .i64 (fl:Int),.int .i64 1,.slice da dn dc,.slice la ln lc] w fun e w'=>∃ a9 c9,e=.returned (.agg #[.int .i64 3,.int .i64 4,.slice a9 ln c9])∧w'.ownsRow w.heap.size 5 1 (.slice a9 ln c9) ln (bcells all)∧Below w.heap.size w w':=by
 have KN:=hide (note_any 3 4 la lc all (knW w) (by omega) (hr.below (knW_below w)))
 rw [hl] at KN
 clear hr hl
 go_enter Tryz.func50,Tryz.ntmps50
 go_wp2_with fail
 refine KN.out.mono ?_
 rintro e w4 ⟨a9,c9,rfl,ho4,hb4⟩
 obtain ⟨c0,c1,c2,f0,f1,f2⟩:=nb_later hb4
 have HO4:=hide ho4
 have HB4:=hide ((knW_below w).trans (hb4.mono (knW_below w).size))
 have hz:w.heap.size < (knW w).heap.size:=by rw [knW_size]; omega
 have HZ:=hide hz
 clear ho4 hb4 hz
 go_wp2_with fail
 exact bodyPost_ret (v:=.agg #[.int .i64 3,.int .i64 4,.slice a9 ln c9]) (by simp [results,Tryz.results50,go_sem,c0,c1,c2]) rfl ⟨a9,c9,rfl,own_base (own_under (own_under (own_under HO4.out HZ.out _ _) HZ.out _ _) HZ.out _ _) (Nat.le_of_lt HZ.out),((HB4.out.setCell (Nat.le_refl _) _).setCell (Nat.le_refl _) _).setCell (Nat.le_refl _) _⟩
set_option maxHeartbeats 3200000 in
theorem kn_fb1 (fl:Nat)(X:Nat)(da:Option Addr)(dn dc:Nat)(la:Option Addr)(ln lc:Nat)(all:List Nat)(w:World)(hf:fl < 256)(hl:all.length=ln)(hln:ln≤60000)(hr:BRd w la all)(h1:((fl:Int) / 64 * 64 != 64)=false)(h2:((fl:Int) / 32 % 2 == 1)=true) :
  Calls Tryz.prog 50 #[.pointer (some ⟨X,0,none⟩),.int .i64 (fl:Int),.int .i64 1,.slice da dn dc,.slice la ln lc] w fun e w'=>∃ a9 c9,e=.returned (.agg #[.int .i64 3,.int .i64 4,.slice a9 ln c9])∧w'.ownsRow w.heap.size 5 1 (.slice a9 ln c9) ln (bcells all)∧Below w.heap.size w w':=by
 have KN:=hide (note_any 3 4 la lc all (knW w) (by omega) (hr.below (knW_below w)))
 rw [hl] at KN
 clear hr hl
 go_enter Tryz.func50,Tryz.ntmps50
 go_wp2_with fail
 refine KN.out.mono ?_
 rintro e w4 ⟨a9,c9,rfl,ho4,hb4⟩
 obtain ⟨c0,c1,c2,f0,f1,f2⟩:=nb_later hb4
 have HO4:=hide ho4
 have HB4:=hide ((knW_below w).trans (hb4.mono (knW_below w).size))
 have hz:w.heap.size < (knW w).heap.size:=by rw [knW_size]; omega
 have HZ:=hide hz
 clear ho4 hb4 hz
 go_wp2_with fail
 exact bodyPost_ret (v:=.agg #[.int .i64 3,.int .i64 4,.slice a9 ln c9]) (by simp [results,Tryz.results50,go_sem,c0,c1,c2]) rfl ⟨a9,c9,rfl,own_base (own_under (own_under (own_under HO4.out HZ.out _ _) HZ.out _ _) HZ.out _ _) (Nat.le_of_lt HZ.out),((HB4.out.setCell (Nat.le_refl _) _).setCell (Nat.le_refl _) _).setCell (Nat.le_refl _) _⟩
set_option maxHeartbeats 3200000 in
theorem kn_s1 (fl:Nat)(X:Nat)(da:Option Addr)(dn dc:Nat)(la:Option Addr)(ln lc:Nat)(all:List Nat)(w:World)(hf:fl < 256)(hl:all.length=ln)(hln:ln≤60000)(hr:BRd w la all)(h1:((fl:Int) / 64 * 64 != 64)=false)(h2:((fl:Int) / 32 % 2 == 1)=false)(h3:((dn:Int) != 1)=true) :
  Calls Tryz.prog 50 #[.pointer (some ⟨X,0,none⟩),.int .i64 (fl:Int),.int .i64 1,.slice da dn dc,.slice la ln lc] w fun e w'=>∃ a9 c9,e=.returned (.agg #[.int .i64 3,.int .i64 5,.slice a9 ln c9])∧w'.ownsRow w.heap.size 5 1 (.slice a9 ln c9) ln (bcells all)∧Below w.heap.size w w':=by
 have KN:=hide (note_any 3 5 la lc all (knW w) (by omega) (hr.below (knW_below w)))
 rw [hl] at KN
 clear hr hl
 go_enter Tryz.func50,Tryz.ntmps50
 go_wp2_with fail
 refine KN.out.mono ?_
 rintro e w4 ⟨a9,c9,rfl,ho4,hb4⟩
 obtain ⟨c0,c1,c2,f0,f1,f2⟩:=nb_later hb4
 have HO4:=hide ho4
 have HB4:=hide ((knW_below w).trans (hb4.mono (knW_below w).size))
 have hz:w.heap.size < (knW w).heap.size:=by rw [knW_size]; omega
 have HZ:=hide hz
 clear ho4 hb4 hz
 go_wp2_with fail
 exact bodyPost_ret (v:=.agg #[.int .i64 3,.int .i64 5,.slice a9 ln c9]) (by simp [results,Tryz.results50,go_sem,c0,c1,c2]) rfl ⟨a9,c9,rfl,own_base (own_under (own_under (own_under HO4.out HZ.out _ _) HZ.out _ _) HZ.out _ _) (Nat.le_of_lt HZ.out),((HB4.out.setCell (Nat.le_refl _) _).setCell (Nat.le_refl _) _).setCell (Nat.le_refl _) _⟩
set_option maxHeartbeats 3200000 in
theorem kn_fa2 (fl:Nat)(X:Nat)(da:Option Addr)(dn dc:Nat)(la:Option Addr)(ln lc:Nat)(all:List Nat)(w:World)(hf:fl < 256)(hl:all.length=ln)(hln:ln≤60000)(hr:BRd w la all)(h1:((fl:Int) / 64 * 64 != 64)=true) :
  Calls Tryz.prog 50 #[.pointer (some ⟨X,0,none⟩),.int .i64 (fl:Int),.int .i64 2,.slice da dn dc,.slice la ln lc] w fun e w'=>∃ a9 c9,e=.returned (.agg #[.int .i64 3,.int .i64 4,.slice a9 ln c9])∧w'.ownsRow w.heap.size 5 1 (.slice a9 ln c9) ln (bcells all)∧Below w.heap.size w w':=by
 have KN:=hide (note_any 3 4 la lc all (knW w) (by omega) (hr.below (knW_below w)))
 rw [hl] at KN
 clear hr hl
 go_enter Tryz.func50,Tryz.ntmps50
 go_wp2_with fail
 refine KN.out.mono ?_
 rintro e w4 ⟨a9,c9,rfl,ho4,hb4⟩
 obtain ⟨c0,c1,c2,f0,f1,f2⟩:=nb_later hb4
 have HO4:=hide ho4
 have HB4:=hide ((knW_below w).trans (hb4.mono (knW_below w).size))
 have hz:w.heap.size < (knW w).heap.size:=by rw [knW_size]; omega
 have HZ:=hide hz
 clear ho4 hb4 hz
 go_wp2_with fail
 exact bodyPost_ret (v:=.agg #[.int .i64 3,.int .i64 4,.slice a9 ln c9]) (by simp [results,Tryz.results50,go_sem,c0,c1,c2]) rfl ⟨a9,c9,rfl,own_base (own_under (own_under (own_under HO4.out HZ.out _ _) HZ.out _ _) HZ.out _ _) (Nat.le_of_lt HZ.out),((HB4.out.setCell (Nat.le_refl _) _).setCell (Nat.le_refl _) _).setCell (Nat.le_refl _) _⟩
set_option maxHeartbeats 3200000 in
theorem kn_fb2 (fl:Nat)(X:Nat)(da:Option Addr)(dn dc:Nat)(la:Option Addr)(ln lc:Nat)(all:List Nat)(w:World)(hf:fl < 256)(hl:all.length=ln)(hln:ln≤60000)(hr:BRd w la all)(h1:((fl:Int) / 64 * 64 != 64)=false)(h2:((fl:Int) / 32 % 2 == 1)=true) :
  Calls Tryz.prog 50 #[.pointer (some ⟨X,0,none⟩),.int .i64 (fl:Int),.int .i64 2,.slice da dn dc,.slice la ln lc] w fun e w'=>∃ a9 c9,e=.returned (.agg #[.int .i64 3,.int .i64 4,.slice a9 ln c9])∧w'.ownsRow w.heap.size 5 1 (.slice a9 ln c9) ln (bcells all)∧Below w.heap.size w w':=by
 have KN:=hide (note_any 3 4 la lc all (knW w) (by omega) (hr.below (knW_below w)))
 rw [hl] at KN
 clear hr hl
 go_enter Tryz.func50,Tryz.ntmps50
 go_wp2_with fail
 refine KN.out.mono ?_
 rintro e w4 ⟨a9,c9,rfl,ho4,hb4⟩
 obtain ⟨c0,c1,c2,f0,f1,f2⟩:=nb_later hb4
 have HO4:=hide ho4
 have HB4:=hide ((knW_below w).trans (hb4.mono (knW_below w).size))
 have hz:w.heap.size < (knW w).heap.size:=by rw [knW_size]; omega
 have HZ:=hide hz
 clear ho4 hb4 hz
 go_wp2_with fail
 exact bodyPost_ret (v:=.agg #[.int .i64 3,.int .i64 4,.slice a9 ln c9]) (by simp [results,Tryz.results50,go_sem,c0,c1,c2]) rfl ⟨a9,c9,rfl,own_base (own_under (own_under (own_under HO4.out HZ.out _ _) HZ.out _ _) HZ.out _ _) (Nat.le_of_lt HZ.out),((HB4.out.setCell (Nat.le_refl _) _).setCell (Nat.le_refl _) _).setCell (Nat.le_refl _) _⟩
set_option maxHeartbeats 3200000 in
theorem kn_fa3 (fl:Nat)(X:Nat)(da:Option Addr)(dn dc:Nat)(la:Option Addr)(ln lc:Nat)(all:List Nat)(w:World)(hf:fl < 256)(hl:all.length=ln)(hln:ln≤60000)(hr:BRd w la all)(h1:((fl:Int) / 64 * 64 != 64)=true) :
  Calls Tryz.prog 50 #[.pointer (some ⟨X,0,none⟩),.int .i64 (fl:Int),.int .i64 3,.slice da dn dc,.slice la ln lc] w fun e w'=>∃ a9 c9,e=.returned (.agg #[.int .i64 3,.int .i64 4,.slice a9 ln c9])∧w'.ownsRow w.heap.size 5 1 (.slice a9 ln c9) ln (bcells all)∧Below w.heap.size w w':=by
 have KN:=hide (note_any 3 4 la lc all (knW w) (by omega) (hr.below (knW_below w)))
 rw [hl] at KN
 clear hr hl
 go_enter Tryz.func50,Tryz.ntmps50
 go_wp2_with fail
 refine KN.out.mono ?_
 rintro e w4 ⟨a9,c9,rfl,ho4,hb4⟩
 obtain ⟨c0,c1,c2,f0,f1,f2⟩:=nb_later hb4
 have HO4:=hide ho4
 have HB4:=hide ((knW_below w).trans (hb4.mono (knW_below w).size))
 have hz:w.heap.size < (knW w).heap.size:=by rw [knW_size]; omega
 have HZ:=hide hz
 clear ho4 hb4 hz
 go_wp2_with fail
 exact bodyPost_ret (v:=.agg #[.int .i64 3,.int .i64 4,.slice a9 ln c9]) (by simp [results,Tryz.results50,go_sem,c0,c1,c2]) rfl ⟨a9,c9,rfl,own_base (own_under (own_under (own_under HO4.out HZ.out _ _) HZ.out _ _) HZ.out _ _) (Nat.le_of_lt HZ.out),((HB4.out.setCell (Nat.le_refl _) _).setCell (Nat.le_refl _) _).setCell (Nat.le_refl _) _⟩
set_option maxHeartbeats 3200000 in
theorem kn_fb3 (fl:Nat)(X:Nat)(da:Option Addr)(dn dc:Nat)(la:Option Addr)(ln lc:Nat)(all:List Nat)(w:World)(hf:fl < 256)(hl:all.length=ln)(hln:ln≤60000)(hr:BRd w la all)(h1:((fl:Int) / 64 * 64 != 64)=false)(h2:((fl:Int) / 32 % 2 == 1)=true) :
  Calls Tryz.prog 50 #[.pointer (some ⟨X,0,none⟩),.int .i64 (fl:Int),.int .i64 3,.slice da dn dc,.slice la ln lc] w fun e w'=>∃ a9 c9,e=.returned (.agg #[.int .i64 3,.int .i64 4,.slice a9 ln c9])∧w'.ownsRow w.heap.size 5 1 (.slice a9 ln c9) ln (bcells all)∧Below w.heap.size w w':=by
 have KN:=hide (note_any 3 4 la lc all (knW w) (by omega) (hr.below (knW_below w)))
 rw [hl] at KN
 clear hr hl
 go_enter Tryz.func50,Tryz.ntmps50
 go_wp2_with fail
 refine KN.out.mono ?_
 rintro e w4 ⟨a9,c9,rfl,ho4,hb4⟩
 obtain ⟨c0,c1,c2,f0,f1,f2⟩:=nb_later hb4
 have HO4:=hide ho4
 have HB4:=hide ((knW_below w).trans (hb4.mono (knW_below w).size))
 have hz:w.heap.size < (knW w).heap.size:=by rw [knW_size]; omega
 have HZ:=hide hz
 clear ho4 hb4 hz
 go_wp2_with fail
 exact bodyPost_ret (v:=.agg #[.int .i64 3,.int .i64 4,.slice a9 ln c9]) (by simp [results,Tryz.results50,go_sem,c0,c1,c2]) rfl ⟨a9,c9,rfl,own_base (own_under (own_under (own_under HO4.out HZ.out _ _) HZ.out _ _) HZ.out _ _) (Nat.le_of_lt HZ.out),((HB4.out.setCell (Nat.le_refl _) _).setCell (Nat.le_refl _) _).setCell (Nat.le_refl _) _⟩
set_option maxHeartbeats 3200000 in
theorem kn_s3 (fl:Nat)(X:Nat)(da:Option Addr)(dn dc:Nat)(la:Option Addr)(ln lc:Nat)(all:List Nat)(w:World)(hf:fl < 256)(hl:all.length=ln)(hln:ln≤60000)(hr:BRd w la all)(h1:((fl:Int) / 64 * 64 != 64)=false)(h2:((fl:Int) / 32 % 2 == 1)=false)(h3:((dn:Int) != 4)=true) :
  Calls Tryz.prog 50 #[.pointer (some ⟨X,0,none⟩),.int .i64 (fl:Int),.int .i64 3,.slice da dn dc,.slice la ln lc] w fun e w'=>∃ a9 c9,e=.returned (.agg #[.int .i64 3,.int .i64 5,.slice a9 ln c9])∧w'.ownsRow w.heap.size 5 1 (.slice a9 ln c9) ln (bcells all)∧Below w.heap.size w w':=by
 have KN:=hide (note_any 3 5 la lc all (knW w) (by omega) (hr.below (knW_below w)))
 rw [hl] at KN
 clear hr hl
 go_enter Tryz.func50,Tryz.ntmps50
 go_wp2_with fail
 refine KN.out.mono ?_
 rintro e w4 ⟨a9,c9,rfl,ho4,hb4⟩
 obtain ⟨c0,c1,c2,f0,f1,f2⟩:=nb_later hb4
 have HO4:=hide ho4
 have HB4:=hide ((knW_below w).trans (hb4.mono (knW_below w).size))
 have hz:w.heap.size < (knW w).heap.size:=by rw [knW_size]; omega
 have HZ:=hide hz
 clear ho4 hb4 hz
 go_wp2_with fail
 exact bodyPost_ret (v:=.agg #[.int .i64 3,.int .i64 5,.slice a9 ln c9]) (by simp [results,Tryz.results50,go_sem,c0,c1,c2]) rfl ⟨a9,c9,rfl,own_base (own_under (own_under (own_under HO4.out HZ.out _ _) HZ.out _ _) HZ.out _ _) (Nat.le_of_lt HZ.out),((HB4.out.setCell (Nat.le_refl _) _).setCell (Nat.le_refl _) _).setCell (Nat.le_refl _) _⟩
set_option linter.unusedVariables false
set_option maxHeartbeats 3200000 in
theorem kn_ok6 (fl:Nat)(X B:Nat)(a:At)(da:Option Addr)(dn dc:Nat)(la:Option Addr)(ln lc:Nat)(d all:List Nat)(w:World)(hf:fl < 256)(hX:Box w X B a)(hB:B≤w.heap.size)(hdn:d.length=dn)(hdc:dn≤dc)(hrd:BRd w da d)(h1:((fl:Int) / 64 * 64 != 64)=false)(h2:((fl:Int) / 32 % 2 == 1)=false)(hrl:a.raws.length≤5000)(hd1:dn=0) :
  Calls Tryz.prog 50 #[.pointer (some ⟨X,0,none⟩),.int .i64 (fl:Int),.int .i64 6,.slice da dn dc,.slice la ln lc] w fun e w'=>e=.returned (.agg #[.int .i64 0,.int .i64 0,.slice none 0 0])∧Box w' X B ({ a with raws:=insR (64,6,d) a.raws })∧Keeps (NotBox X B) w w':=by
 have hXl:=hX.pos
 have hXB:=hX.lt
 have HX:=hide (hX.later (knW_below w))
 have HD:=hide (hrd.below (knW_below w))
 have HDN:=hide hdn
 have hks:=knW_size w
 have hXN:X < (knW w).heap.size:=by omega
 have HBK0:=hide (knW_block w)
 have KW:=hide (raw_any X B a 64 6 da dn dc d (knW w) hdn HX.out (by have:=(knW_below w).size; omega) HD.out hrl (by omega))
 have hXne:X≠w.heap.size:=by omega
 clear hX hrd hdn
 subst hd1
 go_enter Tryz.func50,Tryz.ntmps50
 go_upto_if 38 with fail
 have hk:((w.alloc (.cells #[.int .i64 0,.int .i64 0,.slice none 0 0] 38)).alloc (.cells #[.int .i64 0,.int .i64 64,.int .i64 64,.int .i64 64,.int .i64 128,.int .i64 64,.int .i64 64,.int .i64 192,.int .i64 192] 3)).alloc (.cells #[.int .i64 0,.int .i64 1,.int .i64 (-1),.int .i64 4,.int .i64 4,.int .i64 4,.int .i64 0,.int .i64 8,.int .i64 (-1)] 3)=knW w:=rfl
 rw [hk]
 clear hk
 go_wp2_with fail
 refine KW.out.mono ?_
 rintro e w4 ⟨rfl,hbx,hkx⟩
 have HBX:=hide hbx
 have HBK:Hid (w4.heap[w.heap.size]?=some (.cells #[.int .i64 0,.int .i64 0,.slice none 0 0] 38 (0,0))):=by show _=_; rw [hkx.block _ (by omega) (fun e=>hXne e.symm)]; exact HBK0.out
 have HKP:Hid (Keeps (NotBox X B) w w4):=(keeps_box (knW_below w)).trans (hkx.mono (fun _ _ h=>.inl h)) (fun b _ h=>h)
 obtain ⟨c0,c1,c2,f0,f1,f2⟩:=nb_of HBK.out
 clear hbx hkx hks hXB
 go_wp2_with fail
 exact bodyPost_ret (v:=.agg #[.int .i64 0,.int .i64 0,.slice none 0 0]) (by simp [results,Tryz.results50,go_sem,c0,c1,c2]) rfl ⟨rfl,by rw [nb_zero HBK.out]; exact HBX.out,by rw [nb_zero HBK.out]; exact HKP.out⟩
set_option maxHeartbeats 3200000 in
theorem kn_ok7 (fl:Nat)(X B:Nat)(a:At)(da:Option Addr)(dn dc:Nat)(la:Option Addr)(ln lc:Nat)(d all:List Nat)(w:World)(hf:fl < 256)(hX:Box w X B a)(hB:B≤w.heap.size)(hdn:d.length=dn)(hdc:dn≤dc)(hrd:BRd w da d)(h1:((fl:Int) / 64 * 64 != 192)=false)(q:Bool)(h2:((fl:Int) / 32 % 2 == 1)=q)(hrl:a.raws.length≤5000)(hd1:dn=8) :
  Calls Tryz.prog 50 #[.pointer (some ⟨X,0,none⟩),.int .i64 (fl:Int),.int .i64 7,.slice da dn dc,.slice la ln lc] w fun e w'=>e=.returned (.agg #[.int .i64 0,.int .i64 0,.slice none 0 0])∧Box w' X B ({ a with raws:=insR (192,7,d) a.raws })∧Keeps (NotBox X B) w w':=by
 have hXl:=hX.pos
 have hXB:=hX.lt
 have HX:=hide (hX.later (knW_below w))
 have HD:=hide (hrd.below (knW_below w))
 have HDN:=hide hdn
 have hks:=knW_size w
 have hXN:X < (knW w).heap.size:=by omega
 have HBK0:=hide (knW_block w)
 have KW:=hide (raw_any X B a 192 7 da dn dc d (knW w) hdn HX.out (by have:=(knW_below w).size; omega) HD.out hrl (by omega))
 have hXne:X≠w.heap.size:=by omega
 clear hX hrd hdn
 subst hd1
 cases q
 ·go_enter Tryz.func50,Tryz.ntmps50
  go_upto_if 38 with fail
  have hk:((w.alloc (.cells #[.int .i64 0,.int .i64 0,.slice none 0 0] 38)).alloc (.cells #[.int .i64 0,.int .i64 64,.int .i64 64,.int .i64 64,.int .i64 128,.int .i64 64,.int .i64 64,.int .i64 192,.int .i64 192] 3)).alloc (.cells #[.int .i64 0,.int .i64 1,.int .i64 (-1),.int .i64 4,.int .i64 4,.int .i64 4,.int .i64 0,.int .i64 8,.int .i64 (-1)] 3)=knW w:=rfl
  rw [hk]
  clear hk
  go_wp2_with fail
  refine KW.out.mono ?_
  rintro e w4 ⟨rfl,hbx,hkx⟩
  have HBX:=hide hbx
  have HBK:Hid (w4.heap[w.heap.size]?=some (.cells #[.int .i64 0,.int .i64 0,.slice none 0 0] 38 (0,0))):=by show _=_; rw [hkx.block _ (by omega) (fun e=>hXne e.symm)]; exact HBK0.out
  have HKP:Hid (Keeps (NotBox X B) w w4):=(keeps_box (knW_below w)).trans (hkx.mono (fun _ _ h=>.inl h)) (fun b _ h=>h)
  obtain ⟨c0,c1,c2,f0,f1,f2⟩:=nb_of HBK.out
  clear hbx hkx hks hXB
  go_wp2_with fail
  exact bodyPost_ret (v:=.agg #[.int .i64 0,.int .i64 0,.slice none 0 0]) (by simp [results,Tryz.results50,go_sem,c0,c1,c2]) rfl ⟨rfl,by rw [nb_zero HBK.out]; exact HBX.out,by rw [nb_zero HBK.out]; exact HKP.out⟩
 ·go_enter Tryz.func50,Tryz.ntmps50
  go_upto_if 38 with fail
  have hk:((w.alloc (.cells #[.int .i64 0,.int .i64 0,.slice none 0 0] 38)).alloc (.cells #[.int .i64 0,.int .i64 64,.int .i64 64,.int .i64 64,.int .i64 128,.int .i64 64,.int .i64 64,.int .i64 192,.int .i64 192] 3)).alloc (.cells #[.int .i64 0,.int .i64 1,.int .i64 (-1),.int .i64 4,.int .i64 4,.int .i64 4,.int .i64 0,.int .i64 8,.int .i64 (-1)] 3)=knW w:=rfl
  rw [hk]
  clear hk
  go_wp2_with fail
  refine KW.out.mono ?_
  rintro e w4 ⟨rfl,hbx,hkx⟩
  have HBX:=hide hbx
  have HBK:Hid (w4.heap[w.heap.size]?=some (.cells #[.int .i64 0,.int .i64 0,.slice none 0 0] 38 (0,0))):=by show _=_; rw [hkx.block _ (by omega) (fun e=>hXne e.symm)]; exact HBK0.out
  have HKP:Hid (Keeps (NotBox X B) w w4):=(keeps_box (knW_below w)).trans (hkx.mono (fun _ _ h=>.inl h)) (fun b _ h=>h)
  obtain ⟨c0,c1,c2,f0,f1,f2⟩:=nb_of HBK.out
  clear hbx hkx hks hXB
  go_wp2_with fail
  exact bodyPost_ret (v:=.agg #[.int .i64 0,.int .i64 0,.slice none 0 0]) (by simp [results,Tryz.results50,go_sem,c0,c1,c2]) rfl ⟨rfl,by rw [nb_zero HBK.out]; exact HBX.out,by rw [nb_zero HBK.out]; exact HKP.out⟩
end Go.Proofs.YtogbjeaceboemaaGreatDoor
