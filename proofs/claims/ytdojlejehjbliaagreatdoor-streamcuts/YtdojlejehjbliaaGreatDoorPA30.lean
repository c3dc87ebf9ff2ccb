import Derived.Test.YtdojlejehjbliaaGreatDoorPA29
namespace Go.Proofs.YtdojlejehjbliaaGreatDoor
set_option maxHeartbeats 4000000
open _root_.Nat renaming le_refl → I,le_of_lt → Q
open _root_.Go.Value renaming slice → J,int → Z,pointer → K
open _root_.Go.IntKind renaming i64 → V
open _root_.Go.Ending renaming returned → Y
open _root_.Go.Proofs.Tryz renaming prog → U
open _root_.Option renaming none → E,some → D
open Go.RowKit
set_option maxRecDepth 100000
def Qlm (X B:Nat)(w w':World)(r:Res)(e:Ending):Prop :=
 match r with
 | .inl n=>∃ a9 c9,e=Y (.agg #[Z V 3,Z V (n.2.1:Int),J a9 n.2.2.length c9])∧w'.ownsRow w.heap.size 5 1 (J a9 n.2.2.length c9) n.2.2.length (Qal n.2.2)∧Qae (Qa2 X B) w w'
 | .inr a'=>e=Y (.agg #[Z V 0,Z V 0,J E 0 0])∧Box w' X B a'∧Qae (Qa2 X B) w w'
def knW (w:World):World:=((w.alloc (.cells #[Z V 0,Z V 0,J E 0 0] 38)).alloc (.cells #[Z V 0,Z V 64,Z V 64,Z V 64,Z V 128,Z V 64,Z V 64,Z V 192,Z V 192] 3)).alloc (.cells #[Z V 0,Z V 1,Z V (-1),Z V 4,Z V 4,Z V 4,Z V 0,Z V 8,Z V (-1)] 3)
theorem Qad (w:World):Below w.heap.size w (knW w):=(((Below.refl _ _).alloc (I _) _).alloc (by simp) _).alloc (by simp; omega) _
theorem Qaz (w:World):(knW w).heap.size=w.heap.size+1+1+1:=by unfold knW; simp
theorem Qcs (w:World):(knW w).heap[w.heap.size]?=D (.cells #[Z V 0,Z V 0,J E 0 0] 38 (0,0)):=by
 unfold knW
 rw [heap_alloc_old _ _ (by simp; omega),heap_alloc_old _ _ (by simp)]
 exact heap_alloc_new _ _
theorem Qc4 {b:List Nat}(hb:∀ x∈b,x < 256)(i:Nat):b.getD i 0 < 256:=by
 rw [List.getD_eq_getElem?_getD]
 cases h:b[i]? with
 | none=>decide
 | some x=>exact hb x (List.mem_of_getElem? h)
structure NB (w W:World):Prop where
 c0:W.cell? ⟨w.heap.size,0,E⟩=D (Z V 0)
 c1:W.cell? ⟨w.heap.size,1,E⟩=D (Z V 0)
 c2:W.cell? ⟨w.heap.size,2,E⟩=D (J E 0 0)
 f0:W.frozen? ⟨w.heap.size,0,E⟩=false
 f1:W.frozen? ⟨w.heap.size,1,E⟩=false
 f2:W.frozen? ⟨w.heap.size,2,E⟩=false
theorem Qgt {w W:World}(h:W.heap[w.heap.size]?=D (.cells #[Z V 0,Z V 0,J E 0 0] 38 (0,0))):NB w W:=by
 refine ⟨?_,?_,?_,?_,?_,?_⟩ <;> simp [World.cell?,World.frozen?,h]
theorem Qcy {w W:World}(h:W.heap[w.heap.size]?=D (.cells #[Z V 0,Z V 0,J E 0 0] 38 (0,0))):((W.setCell ⟨w.heap.size,0,E⟩ (Z V 0)).setCell ⟨w.heap.size,1,E⟩ (Z V 0)).setCell ⟨w.heap.size,2,E⟩ (J E 0 0)=W:=by
 have k:∀ j v,#[Value.int V 0,Z V 0,J E 0 0].setIfInBounds j v=#[Value.int V 0,Z V 0,J E 0 0]→W.setCell ⟨w.heap.size,j,E⟩ v=W:=fun j v e=>by
  rw [setCell_eq_setRow W _ _ _ _ _ _ h,e,setRow_self W _ _ _ _ h]
 rw [k 0 _ rfl,k 1 _ rfl,k 2 _ rfl]
theorem Qem {w W:World}(hb:Below (knW w).heap.size (knW w) W):W.heap[w.heap.size]?=D (.cells #[Z V 0,Z V 0,J E 0 0] 38 (0,0)):=by rw [hb.block _ (by rw [Qaz]; omega)]; exact Qcs w
theorem Qbu {w W:World}(hb:Below (knW w).heap.size (knW w) W):NB w W:=Qgt (by rw [hb.block _ (by rw [Qaz]; omega)]; exact Qcs w)
theorem Ja8 (fl:Nat)(X:Nat)(da:Option Addr)(dn dc:Nat)(la:Option Addr)(ln lc:Nat)(all:List Nat)(w:World)(hf:fl < 256)(hl:all.length=ln)(hln:ln≤60000)(hr:BRd w la all)(h1:((fl:Int) / 64 * 64 != 64)=true) :
  Calls U 47 #[K (D ⟨X,0,E⟩),Z V (fl:Int),Z V 1,J da dn dc,J la ln lc] w fun e w'=>∃ a9 c9,e=Y (.agg #[Z V 3,Z V 4,J a9 ln c9])∧w'.ownsRow w.heap.size 5 1 (J a9 ln c9) ln (Qal all)∧Below w.heap.size w w':=by
 have KN:=Qaa (Qa9 3 4 la lc all (knW w) (by omega) (hr.below (Qad w)))
 rw [hl] at KN
 clear hr hl
 go_enter Tryz.func47,Tryz.ntmps47
 go_wp2_with fail
 refine KN.out.mono ?_
 rintro e w4 ⟨a9,c9,rfl,ho4,hb4⟩
 obtain ⟨c0,c1,c2,f0,f1,f2⟩:=Qbu hb4
 have HO4:=Qaa ho4
 have HB4:=Qaa ((Qad w).trans (hb4.mono (Qad w).size))
 have hz:w.heap.size < (knW w).heap.size:=by rw [Qaz]; omega
 have HZ:=Qaa hz
 clear ho4 hb4 hz
 go_wp2_with fail
 exact bodyPost_ret (v:=.agg #[Z V 3,Z V 4,J a9 ln c9]) (by simp [results,Tryz.results47,go_sem,c0,c1,c2]) rfl ⟨a9,c9,rfl,Qan (Qac (Qac (Qac HO4.out HZ.out _ _) HZ.out _ _) HZ.out _ _) (Q HZ.out),((HB4.out.setCell (I _) _).setCell (I _) _).setCell (I _) _⟩
theorem Jbg (fl:Nat)(X:Nat)(da:Option Addr)(dn dc:Nat)(la:Option Addr)(ln lc:Nat)(all:List Nat)(w:World)(hf:fl < 256)(hl:all.length=ln)(hln:ln≤60000)(hr:BRd w la all)(h1:((fl:Int) / 64 * 64 != 64)=false)(h2:((fl:Int) / 32 % 2 == 1)=true) :
  Calls U 47 #[K (D ⟨X,0,E⟩),Z V (fl:Int),Z V 1,J da dn dc,J la ln lc] w fun e w'=>∃ a9 c9,e=Y (.agg #[Z V 3,Z V 4,J a9 ln c9])∧w'.ownsRow w.heap.size 5 1 (J a9 ln c9) ln (Qal all)∧Below w.heap.size w w':=by
 have KN:=Qaa (Qa9 3 4 la lc all (knW w) (by omega) (hr.below (Qad w)))
 rw [hl] at KN
 clear hr hl
 go_enter Tryz.func47,Tryz.ntmps47
 go_wp2_with fail
 refine KN.out.mono ?_
 rintro e w4 ⟨a9,c9,rfl,ho4,hb4⟩
 obtain ⟨c0,c1,c2,f0,f1,f2⟩:=Qbu hb4
 have HO4:=Qaa ho4
 have HB4:=Qaa ((Qad w).trans (hb4.mono (Qad w).size))
 have hz:w.heap.size < (knW w).heap.size:=by rw [Qaz]; omega
 have HZ:=Qaa hz
 clear ho4 hb4 hz
 go_wp2_with fail
 exact bodyPost_ret (v:=.agg #[Z V 3,Z V 4,J a9 ln c9]) (by simp [results,Tryz.results47,go_sem,c0,c1,c2]) rfl ⟨a9,c9,rfl,Qan (Qac (Qac (Qac HO4.out HZ.out _ _) HZ.out _ _) HZ.out _ _) (Q HZ.out),((HB4.out.setCell (I _) _).setCell (I _) _).setCell (I _) _⟩
theorem Jcd (fl:Nat)(X:Nat)(da:Option Addr)(dn dc:Nat)(la:Option Addr)(ln lc:Nat)(all:List Nat)(w:World)(hf:fl < 256)(hl:all.length=ln)(hln:ln≤60000)(hr:BRd w la all)(h1:((fl:Int) / 64 * 64 != 64)=false)(h2:((fl:Int) / 32 % 2 == 1)=false)(h3:((dn:Int) != 1)=true) :
  Calls U 47 #[K (D ⟨X,0,E⟩),Z V (fl:Int),Z V 1,J da dn dc,J la ln lc] w fun e w'=>∃ a9 c9,e=Y (.agg #[Z V 3,Z V 5,J a9 ln c9])∧w'.ownsRow w.heap.size 5 1 (J a9 ln c9) ln (Qal all)∧Below w.heap.size w w':=by
 have KN:=Qaa (Qa9 3 5 la lc all (knW w) (by omega) (hr.below (Qad w)))
 rw [hl] at KN
 clear hr hl
 go_enter Tryz.func47,Tryz.ntmps47
 go_wp2_with fail
 refine KN.out.mono ?_
 rintro e w4 ⟨a9,c9,rfl,ho4,hb4⟩
 obtain ⟨c0,c1,c2,f0,f1,f2⟩:=Qbu hb4
 have HO4:=Qaa ho4
 have HB4:=Qaa ((Qad w).trans (hb4.mono (Qad w).size))
 have hz:w.heap.size < (knW w).heap.size:=by rw [Qaz]; omega
 have HZ:=Qaa hz
 clear ho4 hb4 hz
 go_wp2_with fail
 exact bodyPost_ret (v:=.agg #[Z V 3,Z V 5,J a9 ln c9]) (by simp [results,Tryz.results47,go_sem,c0,c1,c2]) rfl ⟨a9,c9,rfl,Qan (Qac (Qac (Qac HO4.out HZ.out _ _) HZ.out _ _) HZ.out _ _) (Q HZ.out),((HB4.out.setCell (I _) _).setCell (I _) _).setCell (I _) _⟩
theorem Jaj (fl:Nat)(X:Nat)(da:Option Addr)(dn dc:Nat)(la:Option Addr)(ln lc:Nat)(all:List Nat)(w:World)(hf:fl < 256)(hl:all.length=ln)(hln:ln≤60000)(hr:BRd w la all)(h1:((fl:Int) / 64 * 64 != 64)=true) :
  Calls U 47 #[K (D ⟨X,0,E⟩),Z V (fl:Int),Z V 2,J da dn dc,J la ln lc] w fun e w'=>∃ a9 c9,e=Y (.agg #[Z V 3,Z V 4,J a9 ln c9])∧w'.ownsRow w.heap.size 5 1 (J a9 ln c9) ln (Qal all)∧Below w.heap.size w w':=by
 have KN:=Qaa (Qa9 3 4 la lc all (knW w) (by omega) (hr.below (Qad w)))
 rw [hl] at KN
 clear hr hl
 go_enter Tryz.func47,Tryz.ntmps47
 go_wp2_with fail
 refine KN.out.mono ?_
 rintro e w4 ⟨a9,c9,rfl,ho4,hb4⟩
 obtain ⟨c0,c1,c2,f0,f1,f2⟩:=Qbu hb4
 have HO4:=Qaa ho4
 have HB4:=Qaa ((Qad w).trans (hb4.mono (Qad w).size))
 have hz:w.heap.size < (knW w).heap.size:=by rw [Qaz]; omega
 have HZ:=Qaa hz
 clear ho4 hb4 hz
 go_wp2_with fail
 exact bodyPost_ret (v:=.agg #[Z V 3,Z V 4,J a9 ln c9]) (by simp [results,Tryz.results47,go_sem,c0,c1,c2]) rfl ⟨a9,c9,rfl,Qan (Qac (Qac (Qac HO4.out HZ.out _ _) HZ.out _ _) HZ.out _ _) (Q HZ.out),((HB4.out.setCell (I _) _).setCell (I _) _).setCell (I _) _⟩
theorem Ja2 (fl:Nat)(X:Nat)(da:Option Addr)(dn dc:Nat)(la:Option Addr)(ln lc:Nat)(all:List Nat)(w:World)(hf:fl < 256)(hl:all.length=ln)(hln:ln≤60000)(hr:BRd w la all)(h1:((fl:Int) / 64 * 64 != 64)=false)(h2:((fl:Int) / 32 % 2 == 1)=true) :
  Calls U 47 #[K (D ⟨X,0,E⟩),Z V (fl:Int),Z V 2,J da dn dc,J la ln lc] w fun e w'=>∃ a9 c9,e=Y (.agg #[Z V 3,Z V 4,J a9 ln c9])∧w'.ownsRow w.heap.size 5 1 (J a9 ln c9) ln (Qal all)∧Below w.heap.size w w':=by
 have KN:=Qaa (Qa9 3 4 la lc all (knW w) (by omega) (hr.below (Qad w)))
 rw [hl] at KN
 clear hr hl
 go_enter Tryz.func47,Tryz.ntmps47
 go_wp2_with fail
 refine KN.out.mono ?_
 rintro e w4 ⟨a9,c9,rfl,ho4,hb4⟩
 obtain ⟨c0,c1,c2,f0,f1,f2⟩:=Qbu hb4
 have HO4:=Qaa ho4
 have HB4:=Qaa ((Qad w).trans (hb4.mono (Qad w).size))
 have hz:w.heap.size < (knW w).heap.size:=by rw [Qaz]; omega
 have HZ:=Qaa hz
 clear ho4 hb4 hz
 go_wp2_with fail
 exact bodyPost_ret (v:=.agg #[Z V 3,Z V 4,J a9 ln c9]) (by simp [results,Tryz.results47,go_sem,c0,c1,c2]) rfl ⟨a9,c9,rfl,Qan (Qac (Qac (Qac HO4.out HZ.out _ _) HZ.out _ _) HZ.out _ _) (Q HZ.out),((HB4.out.setCell (I _) _).setCell (I _) _).setCell (I _) _⟩
theorem Jag (fl:Nat)(X:Nat)(da:Option Addr)(dn dc:Nat)(la:Option Addr)(ln lc:Nat)(all:List Nat)(w:World)(hf:fl < 256)(hl:all.length=ln)(hln:ln≤60000)(hr:BRd w la all)(h1:((fl:Int) / 64 * 64 != 64)=true) :
  Calls U 47 #[K (D ⟨X,0,E⟩),Z V (fl:Int),Z V 3,J da dn dc,J la ln lc] w fun e w'=>∃ a9 c9,e=Y (.agg #[Z V 3,Z V 4,J a9 ln c9])∧w'.ownsRow w.heap.size 5 1 (J a9 ln c9) ln (Qal all)∧Below w.heap.size w w':=by
 have KN:=Qaa (Qa9 3 4 la lc all (knW w) (by omega) (hr.below (Qad w)))
 rw [hl] at KN
 clear hr hl
 go_enter Tryz.func47,Tryz.ntmps47
 go_wp2_with fail
 refine KN.out.mono ?_
 rintro e w4 ⟨a9,c9,rfl,ho4,hb4⟩
 obtain ⟨c0,c1,c2,f0,f1,f2⟩:=Qbu hb4
 have HO4:=Qaa ho4
 have HB4:=Qaa ((Qad w).trans (hb4.mono (Qad w).size))
 have hz:w.heap.size < (knW w).heap.size:=by rw [Qaz]; omega
 have HZ:=Qaa hz
 clear ho4 hb4 hz
 go_wp2_with fail
 exact bodyPost_ret (v:=.agg #[Z V 3,Z V 4,J a9 ln c9]) (by simp [results,Tryz.results47,go_sem,c0,c1,c2]) rfl ⟨a9,c9,rfl,Qan (Qac (Qac (Qac HO4.out HZ.out _ _) HZ.out _ _) HZ.out _ _) (Q HZ.out),((HB4.out.setCell (I _) _).setCell (I _) _).setCell (I _) _⟩
theorem Jai (fl:Nat)(X:Nat)(da:Option Addr)(dn dc:Nat)(la:Option Addr)(ln lc:Nat)(all:List Nat)(w:World)(hf:fl < 256)(hl:all.length=ln)(hln:ln≤60000)(hr:BRd w la all)(h1:((fl:Int) / 64 * 64 != 64)=false)(h2:((fl:Int) / 32 % 2 == 1)=true) :
  Calls U 47 #[K (D ⟨X,0,E⟩),Z V (fl:Int),Z V 3,J da dn dc,J la ln lc] w fun e w'=>∃ a9 c9,e=Y (.agg #[Z V 3,Z V 4,J a9 ln c9])∧w'.ownsRow w.heap.size 5 1 (J a9 ln c9) ln (Qal all)∧Below w.heap.size w w':=by
 have KN:=Qaa (Qa9 3 4 la lc all (knW w) (by omega) (hr.below (Qad w)))
 rw [hl] at KN
 clear hr hl
 go_enter Tryz.func47,Tryz.ntmps47
 go_wp2_with fail
 refine KN.out.mono ?_
 rintro e w4 ⟨a9,c9,rfl,ho4,hb4⟩
 obtain ⟨c0,c1,c2,f0,f1,f2⟩:=Qbu hb4
 have HO4:=Qaa ho4
 have HB4:=Qaa ((Qad w).trans (hb4.mono (Qad w).size))
 have hz:w.heap.size < (knW w).heap.size:=by rw [Qaz]; omega
 have HZ:=Qaa hz
 clear ho4 hb4 hz
 go_wp2_with fail
 exact bodyPost_ret (v:=.agg #[Z V 3,Z V 4,J a9 ln c9]) (by simp [results,Tryz.results47,go_sem,c0,c1,c2]) rfl ⟨a9,c9,rfl,Qan (Qac (Qac (Qac HO4.out HZ.out _ _) HZ.out _ _) HZ.out _ _) (Q HZ.out),((HB4.out.setCell (I _) _).setCell (I _) _).setCell (I _) _⟩
theorem Jbx (fl:Nat)(X:Nat)(da:Option Addr)(dn dc:Nat)(la:Option Addr)(ln lc:Nat)(all:List Nat)(w:World)(hf:fl < 256)(hl:all.length=ln)(hln:ln≤60000)(hr:BRd w la all)(h1:((fl:Int) / 64 * 64 != 64)=false)(h2:((fl:Int) / 32 % 2 == 1)=false)(h3:((dn:Int) != 4)=true) :
  Calls U 47 #[K (D ⟨X,0,E⟩),Z V (fl:Int),Z V 3,J da dn dc,J la ln lc] w fun e w'=>∃ a9 c9,e=Y (.agg #[Z V 3,Z V 5,J a9 ln c9])∧w'.ownsRow w.heap.size 5 1 (J a9 ln c9) ln (Qal all)∧Below w.heap.size w w':=by
 have KN:=Qaa (Qa9 3 5 la lc all (knW w) (by omega) (hr.below (Qad w)))
 rw [hl] at KN
 clear hr hl
 go_enter Tryz.func47,Tryz.ntmps47
 go_wp2_with fail
 refine KN.out.mono ?_
 rintro e w4 ⟨a9,c9,rfl,ho4,hb4⟩
 obtain ⟨c0,c1,c2,f0,f1,f2⟩:=Qbu hb4
 have HO4:=Qaa ho4
 have HB4:=Qaa ((Qad w).trans (hb4.mono (Qad w).size))
 have hz:w.heap.size < (knW w).heap.size:=by rw [Qaz]; omega
 have HZ:=Qaa hz
 clear ho4 hb4 hz
 go_wp2_with fail
 exact bodyPost_ret (v:=.agg #[Z V 3,Z V 5,J a9 ln c9]) (by simp [results,Tryz.results47,go_sem,c0,c1,c2]) rfl ⟨a9,c9,rfl,Qan (Qac (Qac (Qac HO4.out HZ.out _ _) HZ.out _ _) HZ.out _ _) (Q HZ.out),((HB4.out.setCell (I _) _).setCell (I _) _).setCell (I _) _⟩
theorem Jam (fl:Nat)(X:Nat)(da:Option Addr)(dn dc:Nat)(la:Option Addr)(ln lc:Nat)(all:List Nat)(w:World)(hf:fl < 256)(hl:all.length=ln)(hln:ln≤60000)(hr:BRd w la all)(h1:((fl:Int) / 64 * 64 != 128)=true) :
  Calls U 47 #[K (D ⟨X,0,E⟩),Z V (fl:Int),Z V 4,J da dn dc,J la ln lc] w fun e w'=>∃ a9 c9,e=Y (.agg #[Z V 3,Z V 4,J a9 ln c9])∧w'.ownsRow w.heap.size 5 1 (J a9 ln c9) ln (Qal all)∧Below w.heap.size w w':=by
 have KN:=Qaa (Qa9 3 4 la lc all (knW w) (by omega) (hr.below (Qad w)))
 rw [hl] at KN
 clear hr hl
 go_enter Tryz.func47,Tryz.ntmps47
 go_wp2_with fail
 refine KN.out.mono ?_
 rintro e w4 ⟨a9,c9,rfl,ho4,hb4⟩
 obtain ⟨c0,c1,c2,f0,f1,f2⟩:=Qbu hb4
 have HO4:=Qaa ho4
 have HB4:=Qaa ((Qad w).trans (hb4.mono (Qad w).size))
 have hz:w.heap.size < (knW w).heap.size:=by rw [Qaz]; omega
 have HZ:=Qaa hz
 clear ho4 hb4 hz
 go_wp2_with fail
 exact bodyPost_ret (v:=.agg #[Z V 3,Z V 4,J a9 ln c9]) (by simp [results,Tryz.results47,go_sem,c0,c1,c2]) rfl ⟨a9,c9,rfl,Qan (Qac (Qac (Qac HO4.out HZ.out _ _) HZ.out _ _) HZ.out _ _) (Q HZ.out),((HB4.out.setCell (I _) _).setCell (I _) _).setCell (I _) _⟩
theorem Jax (fl:Nat)(X:Nat)(da:Option Addr)(dn dc:Nat)(la:Option Addr)(ln lc:Nat)(all:List Nat)(w:World)(hf:fl < 256)(hl:all.length=ln)(hln:ln≤60000)(hr:BRd w la all)(h1:((fl:Int) / 64 * 64 != 128)=false)(h2:((fl:Int) / 32 % 2 == 1)=true) :
  Calls U 47 #[K (D ⟨X,0,E⟩),Z V (fl:Int),Z V 4,J da dn dc,J la ln lc] w fun e w'=>∃ a9 c9,e=Y (.agg #[Z V 3,Z V 4,J a9 ln c9])∧w'.ownsRow w.heap.size 5 1 (J a9 ln c9) ln (Qal all)∧Below w.heap.size w w':=by
 have KN:=Qaa (Qa9 3 4 la lc all (knW w) (by omega) (hr.below (Qad w)))
 rw [hl] at KN
 clear hr hl
 go_enter Tryz.func47,Tryz.ntmps47
 go_wp2_with fail
 refine KN.out.mono ?_
 rintro e w4 ⟨a9,c9,rfl,ho4,hb4⟩
 obtain ⟨c0,c1,c2,f0,f1,f2⟩:=Qbu hb4
 have HO4:=Qaa ho4
 have HB4:=Qaa ((Qad w).trans (hb4.mono (Qad w).size))
 have hz:w.heap.size < (knW w).heap.size:=by rw [Qaz]; omega
 have HZ:=Qaa hz
 clear ho4 hb4 hz
 go_wp2_with fail
 exact bodyPost_ret (v:=.agg #[Z V 3,Z V 4,J a9 ln c9]) (by simp [results,Tryz.results47,go_sem,c0,c1,c2]) rfl ⟨a9,c9,rfl,Qan (Qac (Qac (Qac HO4.out HZ.out _ _) HZ.out _ _) HZ.out _ _) (Q HZ.out),((HB4.out.setCell (I _) _).setCell (I _) _).setCell (I _) _⟩
theorem Jce (fl:Nat)(X:Nat)(da:Option Addr)(dn dc:Nat)(la:Option Addr)(ln lc:Nat)(all:List Nat)(w:World)(hf:fl < 256)(hl:all.length=ln)(hln:ln≤60000)(hr:BRd w la all)(h1:((fl:Int) / 64 * 64 != 128)=false)(h2:((fl:Int) / 32 % 2 == 1)=false)(h3:((dn:Int) != 4)=true) :
  Calls U 47 #[K (D ⟨X,0,E⟩),Z V (fl:Int),Z V 4,J da dn dc,J la ln lc] w fun e w'=>∃ a9 c9,e=Y (.agg #[Z V 3,Z V 5,J a9 ln c9])∧w'.ownsRow w.heap.size 5 1 (J a9 ln c9) ln (Qal all)∧Below w.heap.size w w':=by
 have KN:=Qaa (Qa9 3 5 la lc all (knW w) (by omega) (hr.below (Qad w)))
 rw [hl] at KN
 clear hr hl
 go_enter Tryz.func47,Tryz.ntmps47
 go_wp2_with fail
 refine KN.out.mono ?_
 rintro e w4 ⟨a9,c9,rfl,ho4,hb4⟩
 obtain ⟨c0,c1,c2,f0,f1,f2⟩:=Qbu hb4
 have HO4:=Qaa ho4
 have HB4:=Qaa ((Qad w).trans (hb4.mono (Qad w).size))
 have hz:w.heap.size < (knW w).heap.size:=by rw [Qaz]; omega
 have HZ:=Qaa hz
 clear ho4 hb4 hz
 go_wp2_with fail
 exact bodyPost_ret (v:=.agg #[Z V 3,Z V 5,J a9 ln c9]) (by simp [results,Tryz.results47,go_sem,c0,c1,c2]) rfl ⟨a9,c9,rfl,Qan (Qac (Qac (Qac HO4.out HZ.out _ _) HZ.out _ _) HZ.out _ _) (Q HZ.out),((HB4.out.setCell (I _) _).setCell (I _) _).setCell (I _) _⟩
theorem Jbl (fl:Nat)(X:Nat)(da:Option Addr)(dn dc:Nat)(la:Option Addr)(ln lc:Nat)(all:List Nat)(w:World)(hf:fl < 256)(hl:all.length=ln)(hln:ln≤60000)(hr:BRd w la all)(h1:((fl:Int) / 64 * 64 != 64)=true) :
  Calls U 47 #[K (D ⟨X,0,E⟩),Z V (fl:Int),Z V 5,J da dn dc,J la ln lc] w fun e w'=>∃ a9 c9,e=Y (.agg #[Z V 3,Z V 4,J a9 ln c9])∧w'.ownsRow w.heap.size 5 1 (J a9 ln c9) ln (Qal all)∧Below w.heap.size w w':=by
 have KN:=Qaa (Qa9 3 4 la lc all (knW w) (by omega) (hr.below (Qad w)))
 rw [hl] at KN
 clear hr hl
 go_enter Tryz.func47,Tryz.ntmps47
 go_wp2_with fail
 refine KN.out.mono ?_
 rintro e w4 ⟨a9,c9,rfl,ho4,hb4⟩
 obtain ⟨c0,c1,c2,f0,f1,f2⟩:=Qbu hb4
 have HO4:=Qaa ho4
 have HB4:=Qaa ((Qad w).trans (hb4.mono (Qad w).size))
 have hz:w.heap.size < (knW w).heap.size:=by rw [Qaz]; omega
 have HZ:=Qaa hz
 clear ho4 hb4 hz
 go_wp2_with fail
 exact bodyPost_ret (v:=.agg #[Z V 3,Z V 4,J a9 ln c9]) (by simp [results,Tryz.results47,go_sem,c0,c1,c2]) rfl ⟨a9,c9,rfl,Qan (Qac (Qac (Qac HO4.out HZ.out _ _) HZ.out _ _) HZ.out _ _) (Q HZ.out),((HB4.out.setCell (I _) _).setCell (I _) _).setCell (I _) _⟩
theorem Jbc (fl:Nat)(X:Nat)(da:Option Addr)(dn dc:Nat)(la:Option Addr)(ln lc:Nat)(all:List Nat)(w:World)(hf:fl < 256)(hl:all.length=ln)(hln:ln≤60000)(hr:BRd w la all)(h1:((fl:Int) / 64 * 64 != 64)=false)(h2:((fl:Int) / 32 % 2 == 1)=true) :
  Calls U 47 #[K (D ⟨X,0,E⟩),Z V (fl:Int),Z V 5,J da dn dc,J la ln lc] w fun e w'=>∃ a9 c9,e=Y (.agg #[Z V 3,Z V 4,J a9 ln c9])∧w'.ownsRow w.heap.size 5 1 (J a9 ln c9) ln (Qal all)∧Below w.heap.size w w':=by
 have KN:=Qaa (Qa9 3 4 la lc all (knW w) (by omega) (hr.below (Qad w)))
 rw [hl] at KN
 clear hr hl
 go_enter Tryz.func47,Tryz.ntmps47
 go_wp2_with fail
 refine KN.out.mono ?_
 rintro e w4 ⟨a9,c9,rfl,ho4,hb4⟩
 obtain ⟨c0,c1,c2,f0,f1,f2⟩:=Qbu hb4
 have HO4:=Qaa ho4
 have HB4:=Qaa ((Qad w).trans (hb4.mono (Qad w).size))
 have hz:w.heap.size < (knW w).heap.size:=by rw [Qaz]; omega
 have HZ:=Qaa hz
 clear ho4 hb4 hz
 go_wp2_with fail
 exact bodyPost_ret (v:=.agg #[Z V 3,Z V 4,J a9 ln c9]) (by simp [results,Tryz.results47,go_sem,c0,c1,c2]) rfl ⟨a9,c9,rfl,Qan (Qac (Qac (Qac HO4.out HZ.out _ _) HZ.out _ _) HZ.out _ _) (Q HZ.out),((HB4.out.setCell (I _) _).setCell (I _) _).setCell (I _) _⟩
theorem Jca (fl:Nat)(X:Nat)(da:Option Addr)(dn dc:Nat)(la:Option Addr)(ln lc:Nat)(all:List Nat)(w:World)(hf:fl < 256)(hl:all.length=ln)(hln:ln≤60000)(hr:BRd w la all)(h1:((fl:Int) / 64 * 64 != 64)=false)(h2:((fl:Int) / 32 % 2 == 1)=false)(h3:((dn:Int) != 4)=true) :
  Calls U 47 #[K (D ⟨X,0,E⟩),Z V (fl:Int),Z V 5,J da dn dc,J la ln lc] w fun e w'=>∃ a9 c9,e=Y (.agg #[Z V 3,Z V 5,J a9 ln c9])∧w'.ownsRow w.heap.size 5 1 (J a9 ln c9) ln (Qal all)∧Below w.heap.size w w':=by
 have KN:=Qaa (Qa9 3 5 la lc all (knW w) (by omega) (hr.below (Qad w)))
 rw [hl] at KN
 clear hr hl
 go_enter Tryz.func47,Tryz.ntmps47
 go_wp2_with fail
 refine KN.out.mono ?_
 rintro e w4 ⟨a9,c9,rfl,ho4,hb4⟩
 obtain ⟨c0,c1,c2,f0,f1,f2⟩:=Qbu hb4
 have HO4:=Qaa ho4
 have HB4:=Qaa ((Qad w).trans (hb4.mono (Qad w).size))
 have hz:w.heap.size < (knW w).heap.size:=by rw [Qaz]; omega
 have HZ:=Qaa hz
 clear ho4 hb4 hz
 go_wp2_with fail
 exact bodyPost_ret (v:=.agg #[Z V 3,Z V 5,J a9 ln c9]) (by simp [results,Tryz.results47,go_sem,c0,c1,c2]) rfl ⟨a9,c9,rfl,Qan (Qac (Qac (Qac HO4.out HZ.out _ _) HZ.out _ _) HZ.out _ _) (Q HZ.out),((HB4.out.setCell (I _) _).setCell (I _) _).setCell (I _) _⟩
theorem Jab (fl:Nat)(X:Nat)(da:Option Addr)(dn dc:Nat)(la:Option Addr)(ln lc:Nat)(all:List Nat)(w:World)(hf:fl < 256)(hl:all.length=ln)(hln:ln≤60000)(hr:BRd w la all)(h1:((fl:Int) / 64 * 64 != 64)=true) :
  Calls U 47 #[K (D ⟨X,0,E⟩),Z V (fl:Int),Z V 6,J da dn dc,J la ln lc] w fun e w'=>∃ a9 c9,e=Y (.agg #[Z V 3,Z V 4,J a9 ln c9])∧w'.ownsRow w.heap.size 5 1 (J a9 ln c9) ln (Qal all)∧Below w.heap.size w w':=by
 have KN:=Qaa (Qa9 3 4 la lc all (knW w) (by omega) (hr.below (Qad w)))
 rw [hl] at KN
 clear hr hl
 go_enter Tryz.func47,Tryz.ntmps47
 go_wp2_with fail
 refine KN.out.mono ?_
 rintro e w4 ⟨a9,c9,rfl,ho4,hb4⟩
 obtain ⟨c0,c1,c2,f0,f1,f2⟩:=Qbu hb4
 have HO4:=Qaa ho4
 have HB4:=Qaa ((Qad w).trans (hb4.mono (Qad w).size))
 have hz:w.heap.size < (knW w).heap.size:=by rw [Qaz]; omega
 have HZ:=Qaa hz
 clear ho4 hb4 hz
 go_wp2_with fail
 exact bodyPost_ret (v:=.agg #[Z V 3,Z V 4,J a9 ln c9]) (by simp [results,Tryz.results47,go_sem,c0,c1,c2]) rfl ⟨a9,c9,rfl,Qan (Qac (Qac (Qac HO4.out HZ.out _ _) HZ.out _ _) HZ.out _ _) (Q HZ.out),((HB4.out.setCell (I _) _).setCell (I _) _).setCell (I _) _⟩
theorem Jal (fl:Nat)(X:Nat)(da:Option Addr)(dn dc:Nat)(la:Option Addr)(ln lc:Nat)(all:List Nat)(w:World)(hf:fl < 256)(hl:all.length=ln)(hln:ln≤60000)(hr:BRd w la all)(h1:((fl:Int) / 64 * 64 != 64)=false)(h2:((fl:Int) / 32 % 2 == 1)=true) :
  Calls U 47 #[K (D ⟨X,0,E⟩),Z V (fl:Int),Z V 6,J da dn dc,J la ln lc] w fun e w'=>∃ a9 c9,e=Y (.agg #[Z V 3,Z V 4,J a9 ln c9])∧w'.ownsRow w.heap.size 5 1 (J a9 ln c9) ln (Qal all)∧Below w.heap.size w w':=by
 have KN:=Qaa (Qa9 3 4 la lc all (knW w) (by omega) (hr.below (Qad w)))
 rw [hl] at KN
 clear hr hl
 go_enter Tryz.func47,Tryz.ntmps47
 go_wp2_with fail
 refine KN.out.mono ?_
 rintro e w4 ⟨a9,c9,rfl,ho4,hb4⟩
 obtain ⟨c0,c1,c2,f0,f1,f2⟩:=Qbu hb4
 have HO4:=Qaa ho4
 have HB4:=Qaa ((Qad w).trans (hb4.mono (Qad w).size))
 have hz:w.heap.size < (knW w).heap.size:=by rw [Qaz]; omega
 have HZ:=Qaa hz
 clear ho4 hb4 hz
 go_wp2_with fail
 exact bodyPost_ret (v:=.agg #[Z V 3,Z V 4,J a9 ln c9]) (by simp [results,Tryz.results47,go_sem,c0,c1,c2]) rfl ⟨a9,c9,rfl,Qan (Qac (Qac (Qac HO4.out HZ.out _ _) HZ.out _ _) HZ.out _ _) (Q HZ.out),((HB4.out.setCell (I _) _).setCell (I _) _).setCell (I _) _⟩
theorem Jb1 (fl:Nat)(X:Nat)(da:Option Addr)(dn dc:Nat)(la:Option Addr)(ln lc:Nat)(all:List Nat)(w:World)(hf:fl < 256)(hl:all.length=ln)(hln:ln≤60000)(hr:BRd w la all)(h1:((fl:Int) / 64 * 64 != 64)=false)(h2:((fl:Int) / 32 % 2 == 1)=false)(h3:((dn:Int) != 0)=true) :
  Calls U 47 #[K (D ⟨X,0,E⟩),Z V (fl:Int),Z V 6,J da dn dc,J la ln lc] w fun e w'=>∃ a9 c9,e=Y (.agg #[Z V 3,Z V 5,J a9 ln c9])∧w'.ownsRow w.heap.size 5 1 (J a9 ln c9) ln (Qal all)∧Below w.heap.size w w':=by
 have KN:=Qaa (Qa9 3 5 la lc all (knW w) (by omega) (hr.below (Qad w)))
 rw [hl] at KN
 clear hr hl
 go_enter Tryz.func47,Tryz.ntmps47
 go_wp2_with fail
 refine KN.out.mono ?_
 rintro e w4 ⟨a9,c9,rfl,ho4,hb4⟩
 obtain ⟨c0,c1,c2,f0,f1,f2⟩:=Qbu hb4
 have HO4:=Qaa ho4
 have HB4:=Qaa ((Qad w).trans (hb4.mono (Qad w).size))
 have hz:w.heap.size < (knW w).heap.size:=by rw [Qaz]; omega
 have HZ:=Qaa hz
 clear ho4 hb4 hz
 go_wp2_with fail
 exact bodyPost_ret (v:=.agg #[Z V 3,Z V 5,J a9 ln c9]) (by simp [results,Tryz.results47,go_sem,c0,c1,c2]) rfl ⟨a9,c9,rfl,Qan (Qac (Qac (Qac HO4.out HZ.out _ _) HZ.out _ _) HZ.out _ _) (Q HZ.out),((HB4.out.setCell (I _) _).setCell (I _) _).setCell (I _) _⟩
