import Derived.Test.YtogbjeaceboemaaGreatDoorPA31
namespace Go.Proofs.YtogbjeaceboemaaGreatDoor
open Go.RowKit
set_option maxRecDepth 100000
set_option maxHeartbeats 3200000 in
theorem kn_fa4 (fl:Nat)(X:Nat)(da:Option Addr)(dn dc:Nat)(la:Option Addr)(ln lc:Nat)(all:List Nat)(w:World)(hf:fl < 256)(hl:all.length=ln)(hln:ln≤60000)(hr:BRd w la all)(h1:((fl:Int) / 64 * 64 != 128)=true) :
  Calls Tryz.prog 50 #[.pointer (some ⟨X,0,none⟩),.int .i64 (fl:Int),.int .i64 4,.slice da dn dc,.slice la ln lc] w fun e w'=>∃ a9 c9,e=.returned (.agg #[.int .i64 3,.int .i64 4,.slice a9 ln c9])∧w'.ownsRow w.heap.size 5 1 (.slice a9 ln c9) ln (bcells all)∧Below w.heap.size w w':=by
 have KN:=hide (note_any 3 4 la lc all (knW w) (by omega) (hr.below (knW_below w)))
 rw [hl] at KN
 clear hr hl
 go_enter Tryz.func50,Tryz.ntmps50
 go_wp2_with fail
 refine KN.out.mono ?_
 rintro e w4 ⟨a9,c9,rfl,ho4,hb4⟩
 obtain ⟨c0,c1,c2,f0,f1,f2⟩:=nb_later hb4
 have HO4:=hide ho4
 have HB4:=hide ((knW_below w).trans (hb4.mono (knW_below w).size))
 have hz:w.heap.size < (knW w).heap.size:=by rw [knW_size]; omega
 have HZ:=hide hz
 clear ho4 hb4 hz
 go_wp2_with fail
 exact bodyPost_ret (v:=.agg #[.int .i64 3,.int .i64 4,.slice a9 ln c9]) (by simp [results,Tryz.results50,go_sem,c0,c1,c2]) rfl ⟨a9,c9,rfl,own_base (own_under (own_under (own_under HO4.out HZ.out _ _) HZ.out _ _) HZ.out _ _) (Nat.le_of_lt HZ.out),((HB4.out.setCell (Nat.le_refl _) _).setCell (Nat.le_refl _) _).setCell (Nat.le_refl _) _⟩
set_option maxHeartbeats 3200000 in
theorem kn_fb4 (fl:Nat)(X:Nat)(da:Option Addr)(dn dc:Nat)(la:Option Addr)(ln lc:Nat)(all:List Nat)(w:World)(hf:fl < 256)(hl:all.length=ln)(hln:ln≤60000)(hr:BRd w la all)(h1:((fl:Int) / 64 * 64 != 128)=false)(h2:((fl:Int) / 32 % 2 == 1)=true) :
  Calls Tryz.prog 50 #[.pointer (some ⟨X,0,none⟩),.int .i64 (fl:Int),.int .i64 4,.slice da dn dc,.slice la ln lc] w fun e w'=>∃ a9 c9,e=.returned (.agg #[.int .i64 3,.int .i64 4,.slice a9 ln c9])∧w'.ownsRow w.heap.size 5 1 (.slice a9 ln c9) ln (bcells all)∧Below w.heap.size w w':=by
 have KN:=hide (note_any 3 4 la lc all (knW w) (by omega) (hr.below (knW_below w)))
 rw [hl] at KN
 clear hr hl
 go_enter Tryz.func50,Tryz.ntmps50
 go_wp2_with fail
 refine KN.out.mono ?_
 rintro e w4 ⟨a9,c9,rfl,ho4,hb4⟩
 obtain ⟨c0,c1,c2,f0,f1,f2⟩:=nb_later hb4
 have HO4:=hide ho4
 have HB4:=hide ((knW_below w).trans (hb4.mono (knW_below w).size))
 have hz:w.heap.size < (knW w).heap.size:=by rw [knW_size]; omega
 have HZ:=hide hz
 clear ho4 hb4 hz
 go_wp2_with fail
 exact bodyPost_ret (v:=.agg #[.int .i64 3,.int .i64 4,.slice a9 ln c9]) (by simp [results,Tryz.results50,go_sem,c0,c1,c2]) rfl ⟨a9,c9,rfl,own_base (own_under (own_under (own_under HO4.out HZ.out _ _) HZ.out _ _) HZ.out _ _) (Nat.le_of_lt HZ.out),((HB4.out.setCell (Nat.le_refl _) _).setCell (Nat.le_refl _) _).setCell (Nat.le_refl _) _⟩
set_option maxHeartbeats 3200000 in
theorem kn_s4 (fl:Nat)(X:Nat)(da:Option Addr)(dn dc:Nat)(la:Option Addr)(ln lc:Nat)(all:List Nat)(w:World)(hf:fl < 256)(hl:all.length=ln)(hln:ln≤60000)(hr:BRd w la all)(h1:((fl:Int) / 64 * 64 != 128)=false)(h2:((fl:Int) / 32 % 2 == 1)=false)(h3:((dn:Int) != 4)=true) :
  Calls Tryz.prog 50 #[.pointer (some ⟨X,0,none⟩),.int .i64 (fl:Int),.int .i64 4,.slice da dn dc,.slice la ln lc] w fun e w'=>∃ a9 c9,e=.returned (.agg #[.int .i64 3,.int .i64 5,.slice a9 ln c9])∧w'.ownsRow w.heap.size 5 1 (.slice a9 ln c9) ln (bcells all)∧Below w.heap.size w w':=by
 have KN:=hide (note_any 3 5 la lc all (knW w) (by omega) (hr.below (knW_below w)))
 rw [hl] at KN
 clear hr hl
 go_enter Tryz.func50,Tryz.ntmps50
 go_wp2_with fail
 refine KN.out.mono ?_
 rintro e w4 ⟨a9,c9,rfl,ho4,hb4⟩
 obtain ⟨c0,c1,c2,f0,f1,f2⟩:=nb_later hb4
 have HO4:=hide ho4
 have HB4:=hide ((knW_below w).trans (hb4.mono (knW_below w).size))
 have hz:w.heap.size < (knW w).heap.size:=by rw [knW_size]; omega
 have HZ:=hide hz
 clear ho4 hb4 hz
 go_wp2_with fail
 exact bodyPost_ret (v:=.agg #[.int .i64 3,.int .i64 5,.slice a9 ln c9]) (by simp [results,Tryz.results50,go_sem,c0,c1,c2]) rfl ⟨a9,c9,rfl,own_base (own_under (own_under (own_under HO4.out HZ.out _ _) HZ.out _ _) HZ.out _ _) (Nat.le_of_lt HZ.out),((HB4.out.setCell (Nat.le_refl _) _).setCell (Nat.le_refl _) _).setCell (Nat.le_refl _) _⟩
set_option maxHeartbeats 3200000 in
theorem kn_fa5 (fl:Nat)(X:Nat)(da:Option Addr)(dn dc:Nat)(la:Option Addr)(ln lc:Nat)(all:List Nat)(w:World)(hf:fl < 256)(hl:all.length=ln)(hln:ln≤60000)(hr:BRd w la all)(h1:((fl:Int) / 64 * 64 != 64)=true) :
  Calls Tryz.prog 50 #[.pointer (some ⟨X,0,none⟩),.int .i64 (fl:Int),.int .i64 5,.slice da dn dc,.slice la ln lc] w fun e w'=>∃ a9 c9,e=.returned (.agg #[.int .i64 3,.int .i64 4,.slice a9 ln c9])∧w'.ownsRow w.heap.size 5 1 (.slice a9 ln c9) ln (bcells all)∧Below w.heap.size w w':=by
 have KN:=hide (note_any 3 4 la lc all (knW w) (by omega) (hr.below (knW_below w)))
 rw [hl] at KN
 clear hr hl
 go_enter Tryz.func50,Tryz.ntmps50
 go_wp2_with fail
 refine KN.out.mono ?_
 rintro e w4 ⟨a9,c9,rfl,ho4,hb4⟩
 obtain ⟨c0,c1,c2,f0,f1,f2⟩:=nb_later hb4
 have HO4:=hide ho4
 have HB4:=hide ((knW_below w).trans (hb4.mono (knW_below w).size))
 have hz:w.heap.size < (knW w).heap.size:=by rw [knW_size]; omega
 have HZ:=hide hz
 clear ho4 hb4 hz
 go_wp2_with fail
 exact bodyPost_ret (v:=.agg #[.int .i64 3,.int .i64 4,.slice a9 ln c9]) (by simp [results,Tryz.results50,go_sem,c0,c1,c2]) rfl ⟨a9,c9,rfl,own_base (own_under (own_under (own_under HO4.out HZ.out _ _) HZ.out _ _) HZ.out _ _) (Nat.le_of_lt HZ.out),((HB4.out.setCell (Nat.le_refl _) _).setCell (Nat.le_refl _) _).setCell (Nat.le_refl _) _⟩
set_option maxHeartbeats 3200000 in
theorem kn_fb5 (fl:Nat)(X:Nat)(da:Option Addr)(dn dc:Nat)(la:Option Addr)(ln lc:Nat)(all:List Nat)(w:World)(hf:fl < 256)(hl:all.length=ln)(hln:ln≤60000)(hr:BRd w la all)(h1:((fl:Int) / 64 * 64 != 64)=false)(h2:((fl:Int) / 32 % 2 == 1)=true) :
  Calls Tryz.prog 50 #[.pointer (some ⟨X,0,none⟩),.int .i64 (fl:Int),.int .i64 5,.slice da dn dc,.slice la ln lc] w fun e w'=>∃ a9 c9,e=.returned (.agg #[.int .i64 3,.int .i64 4,.slice a9 ln c9])∧w'.ownsRow w.heap.size 5 1 (.slice a9 ln c9) ln (bcells all)∧Below w.heap.size w w':=by
 have KN:=hide (note_any 3 4 la lc all (knW w) (by omega) (hr.below (knW_below w)))
 rw [hl] at KN
 clear hr hl
 go_enter Tryz.func50,Tryz.ntmps50
 go_wp2_with fail
 refine KN.out.mono ?_
 rintro e w4 ⟨a9,c9,rfl,ho4,hb4⟩
 obtain ⟨c0,c1,c2,f0,f1,f2⟩:=nb_later hb4
 have HO4:=hide ho4
 have HB4:=hide ((knW_below w).trans (hb4.mono (knW_below w).size))
 have hz:w.heap.size < (knW w).heap.size:=by rw [knW_size]; omega
 have HZ:=hide hz
 clear ho4 hb4 hz
 go_wp2_with fail
 exact bodyPost_ret (v:=.agg #[.int .i64 3,.int .i64 4,.slice a9 ln c9]) (by simp [results,Tryz.results50,go_sem,c0,c1,c2]) rfl ⟨a9,c9,rfl,own_base (own_under (own_under (own_under HO4.out HZ.out _ _) HZ.out _ _) HZ.out _ _) (Nat.le_of_lt HZ.out),((HB4.out.setCell (Nat.le_refl _) _).setCell (Nat.le_refl _) _).setCell (Nat.le_refl _) _⟩
set_option maxHeartbeats 3200000 in
theorem kn_s5 (fl:Nat)(X:Nat)(da:Option Addr)(dn dc:Nat)(la:Option Addr)(ln lc:Nat)(all:List Nat)(w:World)(hf:fl < 256)(hl:all.length=ln)(hln:ln≤60000)(hr:BRd w la all)(h1:((fl:Int) / 64 * 64 != 64)=false)(h2:((fl:Int) / 32 % 2 == 1)=false)(h3:((dn:Int) != 4)=true) :
  Calls Tryz.prog 50 #[.pointer (some ⟨X,0,none⟩),.int .i64 (fl:Int),.int .i64 5,.slice da dn dc,.slice la ln lc] w fun e w'=>∃ a9 c9,e=.returned (.agg #[.int .i64 3,.int .i64 5,.slice a9 ln c9])∧w'.ownsRow w.heap.size 5 1 (.slice a9 ln c9) ln (bcells all)∧Below w.heap.size w w':=by
 have KN:=hide (note_any 3 5 la lc all (knW w) (by omega) (hr.below (knW_below w)))
 rw [hl] at KN
 clear hr hl
 go_enter Tryz.func50,Tryz.ntmps50
 go_wp2_with fail
 refine KN.out.mono ?_
 rintro e w4 ⟨a9,c9,rfl,ho4,hb4⟩
 obtain ⟨c0,c1,c2,f0,f1,f2⟩:=nb_later hb4
 have HO4:=hide ho4
 have HB4:=hide ((knW_below w).trans (hb4.mono (knW_below w).size))
 have hz:w.heap.size < (knW w).heap.size:=by rw [knW_size]; omega
 have HZ:=hide hz
 clear ho4 hb4 hz
 go_wp2_with fail
 exact bodyPost_ret (v:=.agg #[.int .i64 3,.int .i64 5,.slice a9 ln c9]) (by simp [results,Tryz.results50,go_sem,c0,c1,c2]) rfl ⟨a9,c9,rfl,own_base (own_under (own_under (own_under HO4.out HZ.out _ _) HZ.out _ _) HZ.out _ _) (Nat.le_of_lt HZ.out),((HB4.out.setCell (Nat.le_refl _) _).setCell (Nat.le_refl _) _).setCell (Nat.le_refl _) _⟩
set_option maxHeartbeats 3200000 in
theorem kn_fa6 (fl:Nat)(X:Nat)(da:Option Addr)(dn dc:Nat)(la:Option Addr)(ln lc:Nat)(all:List Nat)(w:World)(hf:fl < 256)(hl:all.length=ln)(hln:ln≤60000)(hr:BRd w la all)(h1:((fl:Int) / 64 * 64 != 64)=true) :
  Calls Tryz.prog 50 #[.pointer (some ⟨X,0,none⟩),.int .i64 (fl:Int),.int .i64 6,.slice da dn dc,.slice la ln lc] w fun e w'=>∃ a9 c9,e=.returned (.agg #[.int .i64 3,.int .i64 4,.slice a9 ln c9])∧w'.ownsRow w.heap.size 5 1 (.slice a9 ln c9) ln (bcells all)∧Below w.heap.size w w':=by
 have KN:=hide (note_any 3 4 la lc all (knW w) (by omega) (hr.below (knW_below w)))
 rw [hl] at KN
 clear hr hl
 go_enter Tryz.func50,Tryz.ntmps50
 go_wp2_with fail
 refine KN.out.mono ?_
 rintro e w4 ⟨a9,c9,rfl,ho4,hb4⟩
 obtain ⟨c0,c1,c2,f0,f1,f2⟩:=nb_later hb4
 have HO4:=hide ho4
 have HB4:=hide ((knW_below w).trans (hb4.mono (knW_below w).size))
 have hz:w.heap.size < (knW w).heap.size:=by rw [knW_size]; omega
 have HZ:=hide hz
 clear ho4 hb4 hz
 go_wp2_with fail
 exact bodyPost_ret (v:=.agg #[.int .i64 3,.int .i64 4,.slice a9 ln c9]) (by simp [results,Tryz.results50,go_sem,c0,c1,c2]) rfl ⟨a9,c9,rfl,own_base (own_under (own_under (own_under HO4.out HZ.out _ _) HZ.out _ _) HZ.out _ _) (Nat.le_of_lt HZ.out),((HB4.out.setCell (Nat.le_refl _) _).setCell (Nat.le_refl _) _).setCell (Nat.le_refl _) _⟩
set_option maxHeartbeats 3200000 in
theorem kn_fb6 (fl:Nat)(X:Nat)(da:Option Addr)(dn dc:Nat)(la:Option Addr)(ln lc:Nat)(all:List Nat)(w:World)(hf:fl < 256)(hl:all.length=ln)(hln:ln≤60000)(hr:BRd w la all)(h1:((fl:Int) / 64 * 64 != 64)=false)(h2:((fl:Int) / 32 % 2 == 1)=true) :
  Calls Tryz.prog 50 #[.pointer (some ⟨X,0,none⟩),.int .i64 (fl:Int),.int .i64 6,.slice da dn dc,.slice la ln lc] w fun e w'=>∃ a9 c9,e=.returned (.agg #[.int .i64 3,.int .i64 4,.slice a9 ln c9])∧w'.ownsRow w.heap.size 5 1 (.slice a9 ln c9) ln (bcells all)∧Below w.heap.size w w':=by
 have KN:=hide (note_any 3 4 la lc all (knW w) (by omega) (hr.below (knW_below w)))
 rw [hl] at KN
 clear hr hl
 go_enter Tryz.func50,Tryz.ntmps50
 go_wp2_with fail
 refine KN.out.mono ?_
 rintro e w4 ⟨a9,c9,rfl,ho4,hb4⟩
 obtain ⟨c0,c1,c2,f0,f1,f2⟩:=nb_later hb4
 have HO4:=hide ho4
 have HB4:=hide ((knW_below w).trans (hb4.mono (knW_below w).size))
 have hz:w.heap.size < (knW w).heap.size:=by rw [knW_size]; omega
 have HZ:=hide hz
 clear ho4 hb4 hz
 go_wp2_with fail
 exact bodyPost_ret (v:=.agg #[.int .i64 3,.int .i64 4,.slice a9 ln c9]) (by simp [results,Tryz.results50,go_sem,c0,c1,c2]) rfl ⟨a9,c9,rfl,own_base (own_under (own_under (own_under HO4.out HZ.out _ _) HZ.out _ _) HZ.out _ _) (Nat.le_of_lt HZ.out),((HB4.out.setCell (Nat.le_refl _) _).setCell (Nat.le_refl _) _).setCell (Nat.le_refl _) _⟩
set_option maxHeartbeats 3200000 in
theorem kn_s6 (fl:Nat)(X:Nat)(da:Option Addr)(dn dc:Nat)(la:Option Addr)(ln lc:Nat)(all:List Nat)(w:World)(hf:fl < 256)(hl:all.length=ln)(hln:ln≤60000)(hr:BRd w la all)(h1:((fl:Int) / 64 * 64 != 64)=false)(h2:((fl:Int) / 32 % 2 == 1)=false)(h3:((dn:Int) != 0)=true) :
  Calls Tryz.prog 50 #[.pointer (some ⟨X,0,none⟩),.int .i64 (fl:Int),.int .i64 6,.slice da dn dc,.slice la ln lc] w fun e w'=>∃ a9 c9,e=.returned (.agg #[.int .i64 3,.int .i64 5,.slice a9 ln c9])∧w'.ownsRow w.heap.size 5 1 (.slice a9 ln c9) ln (bcells all)∧Below w.heap.size w w':=by
 have KN:=hide (note_any 3 5 la lc all (knW w) (by omega) (hr.below (knW_below w)))
 rw [hl] at KN
 clear hr hl
 go_enter Tryz.func50,Tryz.ntmps50
 go_wp2_with fail
 refine KN.out.mono ?_
 rintro e w4 ⟨a9,c9,rfl,ho4,hb4⟩
 obtain ⟨c0,c1,c2,f0,f1,f2⟩:=nb_later hb4
 have HO4:=hide ho4
 have HB4:=hide ((knW_below w).trans (hb4.mono (knW_below w).size))
 have hz:w.heap.size < (knW w).heap.size:=by rw [knW_size]; omega
 have HZ:=hide hz
 clear ho4 hb4 hz
 go_wp2_with fail
 exact bodyPost_ret (v:=.agg #[.int .i64 3,.int .i64 5,.slice a9 ln c9]) (by simp [results,Tryz.results50,go_sem,c0,c1,c2]) rfl ⟨a9,c9,rfl,own_base (own_under (own_under (own_under HO4.out HZ.out _ _) HZ.out _ _) HZ.out _ _) (Nat.le_of_lt HZ.out),((HB4.out.setCell (Nat.le_refl _) _).setCell (Nat.le_refl _) _).setCell (Nat.le_refl _) _⟩
end Go.Proofs.YtogbjeaceboemaaGreatDoor
