import Derived.Test.YtdojlejehjbliaaGreatDoorPA30
namespace Go.Proofs.YtdojlejehjbliaaGreatDoor
set_option maxHeartbeats 4000000
open _root_.Go.Value renaming int → I,slice → V,pointer → R
open _root_.Go.IntKind renaming i64 → J
open _root_.Nat renaming le_refl → Z,le_of_lt → E
open _root_.Option renaming none → Q,some → D
open _root_.Go.Obj renaming cells → Y
open _root_.Go.Ending renaming returned → U
open _root_.Go.Proofs.Tryz renaming prog → K
open Go.RowKit
set_option maxRecDepth 100000
theorem Jay (fl:Nat)(X:Nat)(da:Option Addr)(dn dc:Nat)(la:Option Addr)(ln lc:Nat)(all:List Nat)(w:World)(hf:fl < 256)(hl:all.length=ln)(hln:ln≤60000)(hr:BRd w la all)(h1:((fl:Int) / 64 * 64 != 192)=true) :
  Calls K 47 #[R (D ⟨X,0,Q⟩),I J (fl:Int),I J 7,V da dn dc,V la ln lc] w fun e w'=>∃ a9 c9,e=U (.agg #[I J 3,I J 4,V a9 ln c9])∧w'.ownsRow w.heap.size 5 1 (V a9 ln c9) ln (Qal all)∧Below w.heap.size w w':=by
 have KN:=Qaa (Qa9 3 4 la lc all (knW w) (by omega) (hr.below (Qad w)))
 rw [hl] at KN
 clear hr hl
 go_enter Tryz.func47,Tryz.ntmps47
 go_wp2_with fail
 refine KN.out.mono ?_
 rintro e w4 ⟨a9,c9,rfl,ho4,hb4⟩
 obtain ⟨c0,c1,c2,f0,f1,f2⟩:=Qbu hb4
 have HO4:=Qaa ho4
 have HB4:=Qaa ((Qad w).trans (hb4.mono (Qad w).size))
 have hz:w.heap.size < (knW w).heap.size:=by rw [Qaz]; omega
 have HZ:=Qaa hz
 clear ho4 hb4 hz
 go_wp2_with fail
 exact bodyPost_ret (v:=.agg #[I J 3,I J 4,V a9 ln c9]) (by simp [results,Tryz.results47,go_sem,c0,c1,c2]) rfl ⟨a9,c9,rfl,Qan (Qac (Qac (Qac HO4.out HZ.out _ _) HZ.out _ _) HZ.out _ _) (E HZ.out),((HB4.out.setCell (Z _) _).setCell (Z _) _).setCell (Z _) _⟩
theorem Jb3 (fl:Nat)(X:Nat)(da:Option Addr)(dn dc:Nat)(la:Option Addr)(ln lc:Nat)(all:List Nat)(w:World)(hf:fl < 256)(hl:all.length=ln)(hln:ln≤60000)(hr:BRd w la all)(h1:((fl:Int) / 64 * 64 != 192)=false)(q:Bool)(h2:((fl:Int) / 32 % 2 == 1)=q)(h3:((dn:Int) != 8)=true) :
  Calls K 47 #[R (D ⟨X,0,Q⟩),I J (fl:Int),I J 7,V da dn dc,V la ln lc] w fun e w'=>∃ a9 c9,e=U (.agg #[I J 3,I J 5,V a9 ln c9])∧w'.ownsRow w.heap.size 5 1 (V a9 ln c9) ln (Qal all)∧Below w.heap.size w w':=by
 have KN:=Qaa (Qa9 3 5 la lc all (knW w) (by omega) (hr.below (Qad w)))
 rw [hl] at KN
 clear hr hl
 cases q
 ·go_enter Tryz.func47,Tryz.ntmps47
  go_wp2_with fail
  refine KN.out.mono ?_
  rintro e w4 ⟨a9,c9,rfl,ho4,hb4⟩
  obtain ⟨c0,c1,c2,f0,f1,f2⟩:=Qbu hb4
  have HO4:=Qaa ho4
  have HB4:=Qaa ((Qad w).trans (hb4.mono (Qad w).size))
  have hz:w.heap.size < (knW w).heap.size:=by rw [Qaz]; omega
  have HZ:=Qaa hz
  clear ho4 hb4 hz
  go_wp2_with fail
  exact bodyPost_ret (v:=.agg #[I J 3,I J 5,V a9 ln c9]) (by simp [results,Tryz.results47,go_sem,c0,c1,c2]) rfl ⟨a9,c9,rfl,Qan (Qac (Qac (Qac HO4.out HZ.out _ _) HZ.out _ _) HZ.out _ _) (E HZ.out),((HB4.out.setCell (Z _) _).setCell (Z _) _).setCell (Z _) _⟩
 ·go_enter Tryz.func47,Tryz.ntmps47
  go_wp2_with fail
  refine KN.out.mono ?_
  rintro e w4 ⟨a9,c9,rfl,ho4,hb4⟩
  obtain ⟨c0,c1,c2,f0,f1,f2⟩:=Qbu hb4
  have HO4:=Qaa ho4
  have HB4:=Qaa ((Qad w).trans (hb4.mono (Qad w).size))
  have hz:w.heap.size < (knW w).heap.size:=by rw [Qaz]; omega
  have HZ:=Qaa hz
  clear ho4 hb4 hz
  go_wp2_with fail
  exact bodyPost_ret (v:=.agg #[I J 3,I J 5,V a9 ln c9]) (by simp [results,Tryz.results47,go_sem,c0,c1,c2]) rfl ⟨a9,c9,rfl,Qan (Qac (Qac (Qac HO4.out HZ.out _ _) HZ.out _ _) HZ.out _ _) (E HZ.out),((HB4.out.setCell (Z _) _).setCell (Z _) _).setCell (Z _) _⟩
theorem Jao (fl:Nat)(X:Nat)(da:Option Addr)(dn dc:Nat)(la:Option Addr)(ln lc:Nat)(all:List Nat)(w:World)(hf:fl < 256)(hl:all.length=ln)(hln:ln≤60000)(hr:BRd w la all)(h1:((fl:Int) / 64 * 64 != 192)=true) :
  Calls K 47 #[R (D ⟨X,0,Q⟩),I J (fl:Int),I J 8,V da dn dc,V la ln lc] w fun e w'=>∃ a9 c9,e=U (.agg #[I J 3,I J 4,V a9 ln c9])∧w'.ownsRow w.heap.size 5 1 (V a9 ln c9) ln (Qal all)∧Below w.heap.size w w':=by
 have KN:=Qaa (Qa9 3 4 la lc all (knW w) (by omega) (hr.below (Qad w)))
 rw [hl] at KN
 clear hr hl
 go_enter Tryz.func47,Tryz.ntmps47
 go_wp2_with fail
 refine KN.out.mono ?_
 rintro e w4 ⟨a9,c9,rfl,ho4,hb4⟩
 obtain ⟨c0,c1,c2,f0,f1,f2⟩:=Qbu hb4
 have HO4:=Qaa ho4
 have HB4:=Qaa ((Qad w).trans (hb4.mono (Qad w).size))
 have hz:w.heap.size < (knW w).heap.size:=by rw [Qaz]; omega
 have HZ:=Qaa hz
 clear ho4 hb4 hz
 go_wp2_with fail
 exact bodyPost_ret (v:=.agg #[I J 3,I J 4,V a9 ln c9]) (by simp [results,Tryz.results47,go_sem,c0,c1,c2]) rfl ⟨a9,c9,rfl,Qan (Qac (Qac (Qac HO4.out HZ.out _ _) HZ.out _ _) HZ.out _ _) (E HZ.out),((HB4.out.setCell (Z _) _).setCell (Z _) _).setCell (Z _) _⟩
theorem Jb5 (fl:Nat)(X:Nat)(da:Option Addr)(dn dc:Nat)(la:Option Addr)(ln lc:Nat)(all:List Nat)(w:World)(hf:fl < 256)(hl:all.length=ln)(hln:ln≤60000)(hr:BRd w la all)(h1:((fl:Int) / 64 * 64 != 192)=false)(q:Bool)(h2:((fl:Int) / 32 % 2 == 1)=q)(h3:((dn:Int) == 0)=true) :
  Calls K 47 #[R (D ⟨X,0,Q⟩),I J (fl:Int),I J 8,V da dn dc,V la ln lc] w fun e w'=>∃ a9 c9,e=U (.agg #[I J 3,I J 5,V a9 ln c9])∧w'.ownsRow w.heap.size 5 1 (V a9 ln c9) ln (Qal all)∧Below w.heap.size w w':=by
 have KN:=Qaa (Qa9 3 5 la lc all (knW w) (by omega) (hr.below (Qad w)))
 rw [hl] at KN
 clear hr hl
 cases q
 ·go_enter Tryz.func47,Tryz.ntmps47
  go_wp2_with fail
  refine KN.out.mono ?_
  rintro e w4 ⟨a9,c9,rfl,ho4,hb4⟩
  obtain ⟨c0,c1,c2,f0,f1,f2⟩:=Qbu hb4
  have HO4:=Qaa ho4
  have HB4:=Qaa ((Qad w).trans (hb4.mono (Qad w).size))
  have hz:w.heap.size < (knW w).heap.size:=by rw [Qaz]; omega
  have HZ:=Qaa hz
  clear ho4 hb4 hz
  go_wp2_with fail
  exact bodyPost_ret (v:=.agg #[I J 3,I J 5,V a9 ln c9]) (by simp [results,Tryz.results47,go_sem,c0,c1,c2]) rfl ⟨a9,c9,rfl,Qan (Qac (Qac (Qac HO4.out HZ.out _ _) HZ.out _ _) HZ.out _ _) (E HZ.out),((HB4.out.setCell (Z _) _).setCell (Z _) _).setCell (Z _) _⟩
 ·go_enter Tryz.func47,Tryz.ntmps47
  go_wp2_with fail
  refine KN.out.mono ?_
  rintro e w4 ⟨a9,c9,rfl,ho4,hb4⟩
  obtain ⟨c0,c1,c2,f0,f1,f2⟩:=Qbu hb4
  have HO4:=Qaa ho4
  have HB4:=Qaa ((Qad w).trans (hb4.mono (Qad w).size))
  have hz:w.heap.size < (knW w).heap.size:=by rw [Qaz]; omega
  have HZ:=Qaa hz
  clear ho4 hb4 hz
  go_wp2_with fail
  exact bodyPost_ret (v:=.agg #[I J 3,I J 5,V a9 ln c9]) (by simp [results,Tryz.results47,go_sem,c0,c1,c2]) rfl ⟨a9,c9,rfl,Qan (Qac (Qac (Qac HO4.out HZ.out _ _) HZ.out _ _) HZ.out _ _) (E HZ.out),((HB4.out.setCell (Z _) _).setCell (Z _) _).setCell (Z _) _⟩
theorem Jb4 (fl:Nat)(X:Nat)(da:Option Addr)(dn dc:Nat)(la:Option Addr)(ln lc:Nat)(all:List Nat)(w:World)(hf:fl < 256)(hl:all.length=ln)(hln:ln≤60000)(hr:BRd w la all)(h1:((fl:Int) / 64 * 64 != 192)=false)(q:Bool)(h2:((fl:Int) / 32 % 2 == 1)=q)(h3:((dn:Int) == 0)=false)(h4:((dn:Int) % 4 != 0)=true) :
  Calls K 47 #[R (D ⟨X,0,Q⟩),I J (fl:Int),I J 8,V da dn dc,V la ln lc] w fun e w'=>∃ a9 c9,e=U (.agg #[I J 3,I J 5,V a9 ln c9])∧w'.ownsRow w.heap.size 5 1 (V a9 ln c9) ln (Qal all)∧Below w.heap.size w w':=by
 have KN:=Qaa (Qa9 3 5 la lc all (knW w) (by omega) (hr.below (Qad w)))
 rw [hl] at KN
 clear hr hl
 cases q
 ·go_enter Tryz.func47,Tryz.ntmps47
  go_wp2_with fail
  refine KN.out.mono ?_
  rintro e w4 ⟨a9,c9,rfl,ho4,hb4⟩
  obtain ⟨c0,c1,c2,f0,f1,f2⟩:=Qbu hb4
  have HO4:=Qaa ho4
  have HB4:=Qaa ((Qad w).trans (hb4.mono (Qad w).size))
  have hz:w.heap.size < (knW w).heap.size:=by rw [Qaz]; omega
  have HZ:=Qaa hz
  clear ho4 hb4 hz
  go_wp2_with fail
  exact bodyPost_ret (v:=.agg #[I J 3,I J 5,V a9 ln c9]) (by simp [results,Tryz.results47,go_sem,c0,c1,c2]) rfl ⟨a9,c9,rfl,Qan (Qac (Qac (Qac HO4.out HZ.out _ _) HZ.out _ _) HZ.out _ _) (E HZ.out),((HB4.out.setCell (Z _) _).setCell (Z _) _).setCell (Z _) _⟩
 ·go_enter Tryz.func47,Tryz.ntmps47
  go_wp2_with fail
  refine KN.out.mono ?_
  rintro e w4 ⟨a9,c9,rfl,ho4,hb4⟩
  obtain ⟨c0,c1,c2,f0,f1,f2⟩:=Qbu hb4
  have HO4:=Qaa ho4
  have HB4:=Qaa ((Qad w).trans (hb4.mono (Qad w).size))
  have hz:w.heap.size < (knW w).heap.size:=by rw [Qaz]; omega
  have HZ:=Qaa hz
  clear ho4 hb4 hz
  go_wp2_with fail
  exact bodyPost_ret (v:=.agg #[I J 3,I J 5,V a9 ln c9]) (by simp [results,Tryz.results47,go_sem,c0,c1,c2]) rfl ⟨a9,c9,rfl,Qan (Qac (Qac (Qac HO4.out HZ.out _ _) HZ.out _ _) HZ.out _ _) (E HZ.out),((HB4.out.setCell (Z _) _).setCell (Z _) _).setCell (Z _) _⟩
set_option linter.unusedVariables false
theorem Ja3 (fl:Nat)(X B:Nat)(a:At)(da:Option Addr)(dn dc:Nat)(la:Option Addr)(ln lc:Nat)(d all:List Nat)(w:World)(hf:fl < 256)(hX:Box w X B a)(hB:B≤w.heap.size)(hdn:d.length=dn)(hdc:dn≤dc)(hrd:BRd w da d)(h1:((fl:Int) / 64 * 64 != 64)=false)(h2:((fl:Int) / 32 % 2 == 1)=false)(hd1:dn=1)(h2x:decide ((2:Int) < (d.getD 0 0:Nat))=false) :
  Calls K 47 #[R (D ⟨X,0,Q⟩),I J (fl:Int),I J 1,V da dn dc,V la ln lc] w fun e w'=>e=U (.agg #[I J 0,I J 0,V Q 0 0])∧Box w' X B ({ a with origin:=((d.getD 0 0:Nat):Int) })∧Qae (Qa2 X B) w w':=by
 have hXl:=hX.pos
 have hXB:=hX.lt
 have HX:=Qaa (hX.later (Qad w))
 have HD:=Qaa (hrd.below (Qad w))
 have HDN:=Qaa hdn
 have hks:=Qaz w
 have hXN:X < (knW w).heap.size:=by omega
 have HBK0:=Qaa (Qcs w)
 obtain ⟨b,o,rfl,hc⟩:=HD.out.1.2 (by rw [hdn]; omega)
 obtain ⟨x,hx⟩:∃ x,x=d.getD 0 0:=⟨_,rfl⟩
 have y0:(knW w).cell? ⟨b,o,Q⟩=D (I .u8 (x:Int)):=by rw [hx]; exact hc 0 (by rw [hdn]; omega)
 rw [← hx] at h2x ⊢
 have hx256:x < 256:=by rw [hx]; exact Qc4 HD.out.2 0
 have r0:=HX.out.c0
 have fz:=HX.out.fz 0
 subst hd1
 have HBK:Hid (((knW w).setCell ⟨X,0,Q⟩ (I J (x:Int))).heap[w.heap.size]?=D (Y #[I J 0,I J 0,V Q 0 0] 38 (0,0))):=by show _=_; rw [Qbk _ _ _ _ _ (by omega)]; exact HBK0.out
 have HBX:Hid (Box ((knW w).setCell ⟨X,0,Q⟩ (I J (x:Int))) X B { a with origin:=(x:Int) }):=HX.out.set 0 _ rfl rfl rfl rfl rfl rfl rfl
 have HKP:Hid (Qae (Qa2 X B) w ((knW w).setCell ⟨X,0,Q⟩ (I J (x:Int)))):=(Qat (Qad w)).setCell X 0 _ (.inl (.inl rfl))
 obtain ⟨c0,c1,c2,f0,f1,f2⟩:=Qgt HBK.out
 clear hX hrd hc hx hks hdn hXB
 go_enter Tryz.func47,Tryz.ntmps47
 go_upto_if 38 with fail
 have hk:((w.alloc (Y #[I J 0,I J 0,V Q 0 0] 38)).alloc (Y #[I J 0,I J 64,I J 64,I J 64,I J 128,I J 64,I J 64,I J 192,I J 192] 3)).alloc (Y #[I J 0,I J 1,I J (-1),I J 4,I J 4,I J 4,I J 0,I J 8,I J (-1)] 3)=knW w:=rfl
 rw [hk]
 clear hk
 go_wp2_with fail
 exact bodyPost_ret (v:=.agg #[I J 0,I J 0,V Q 0 0]) (by simp [results,Tryz.results47,go_sem,c0,c1,c2]) rfl ⟨rfl,by rw [Qcy HBK.out]; exact HBX.out,by rw [Qcy HBK.out]; exact HKP.out⟩
theorem Ja6 (fl:Nat)(X B:Nat)(a:At)(da:Option Addr)(dn dc:Nat)(la:Option Addr)(ln lc:Nat)(d all:List Nat)(w:World)(hf:fl < 256)(hX:Box w X B a)(hB:B≤w.heap.size)(hdn:d.length=dn)(hdc:dn≤dc)(hrd:BRd w da d)(hl:all.length=ln)(hln:ln≤60000)(hr:BRd w la all)(h1:((fl:Int) / 64 * 64 != 64)=false)(h2:((fl:Int) / 32 % 2 == 1)=false)(hd1:dn=1)(h2x:(2:Int) < (d.getD 0 0:Nat)) :
  Calls K 47 #[R (D ⟨X,0,Q⟩),I J (fl:Int),I J 1,V da dn dc,V la ln lc] w fun e w'=>∃ a9 c9,e=U (.agg #[I J 3,I J 6,V a9 ln c9])∧w'.ownsRow w.heap.size 5 1 (V a9 ln c9) ln (Qal all)∧Qae (Qa2 X B) w w':=by
 have KN:=Qaa (Qa9 3 6 la lc all (knW w) (by omega) (hr.below (Qad w)))
 rw [hl] at KN
 clear hr hl
 have hXl:=hX.pos
 have hXB:=hX.lt
 have HX:=Qaa (hX.later (Qad w))
 have HD:=Qaa (hrd.below (Qad w))
 have HDN:=Qaa hdn
 have hks:=Qaz w
 have hXN:X < (knW w).heap.size:=by omega
 have HBK0:=Qaa (Qcs w)
 obtain ⟨b,o,rfl,hc⟩:=HD.out.1.2 (by rw [hdn]; omega)
 obtain ⟨x,hx⟩:∃ x,x=d.getD 0 0:=⟨_,rfl⟩
 have y0:(knW w).cell? ⟨b,o,Q⟩=D (I .u8 (x:Int)):=by rw [hx]; exact hc 0 (by rw [hdn]; omega)
 rw [← hx] at h2x
 subst hd1
 clear hX hrd hc hx hks hdn hXB
 go_enter Tryz.func47,Tryz.ntmps47
 go_upto_if 38 with fail
 have hk:((w.alloc (Y #[I J 0,I J 0,V Q 0 0] 38)).alloc (Y #[I J 0,I J 64,I J 64,I J 64,I J 128,I J 64,I J 64,I J 192,I J 192] 3)).alloc (Y #[I J 0,I J 1,I J (-1),I J 4,I J 4,I J 4,I J 0,I J 8,I J (-1)] 3)=knW w:=rfl
 rw [hk]
 clear hk
 go_wp2_with fail
 refine KN.out.mono ?_
 rintro e w4 ⟨a9,c9,rfl,ho4,hb4⟩
 have HO4:=Qaa ho4
 have HBK:=Qaa (Qem hb4)
 have HKP:Hid (Qae (Qa2 X B) w w4):=Qat ((Qad w).trans (hb4.mono (Qad w).size))
 have hz:w.heap.size < (knW w).heap.size:=by rw [Qaz]; omega
 have HZ:=Qaa hz
 clear ho4 hb4 hz
 obtain ⟨c0,c1,c2,f0,f1,f2⟩:=Qgt HBK.out
 go_wp2_with fail
 exact bodyPost_ret (v:=.agg #[I J 3,I J 6,V a9 ln c9]) (by simp [results,Tryz.results47,go_sem,c0,c1,c2]) rfl ⟨a9,c9,rfl,Qan (Qac (Qac (Qac HO4.out HZ.out _ _) HZ.out _ _) HZ.out _ _) (E HZ.out),((HKP.out.setCell w.heap.size 0 _ (.inr (Z _))).setCell w.heap.size 1 _ (.inr (Z _))).setCell w.heap.size 2 _ (.inr (Z _))⟩
set_option linter.unusedVariables false
theorem Jbb (fl:Nat)(X B:Nat)(a:At)(da:Option Addr)(dn dc:Nat)(la:Option Addr)(ln lc:Nat)(d all:List Nat)(w:World)(hf:fl < 256)(hX:Box w X B a)(hB:B≤w.heap.size)(hdn:d.length=dn)(hdc:dn≤dc)(hrd:BRd w da d)(h1:((fl:Int) / 64 * 64 != 64)=false)(h2:((fl:Int) / 32 % 2 == 1)=false)(hdl:dn≤10000)(p:List (Bool×List Int))(hsg:Qa3 (fun q=>d.getD q 0) dn 0 []=D p) :
  Calls K 47 #[R (D ⟨X,0,Q⟩),I J (fl:Int),I J 2,V da dn dc,V la ln lc] w fun e w'=>e=U (.agg #[I J 0,I J 0,V Q 0 0])∧Box w' X B ({ a with path:=p })∧Qae (Qa2 X B) w w':=by
 have hXl:=hX.pos
 have hXB:=hX.lt
 have HX:=Qaa (hX.later (Qad w))
 have HD:=Qaa (hrd.below (Qad w))
 have HDN:=Qaa hdn
 have hks:=Qaz w
 have hXN:X < (knW w).heap.size:=by omega
 have HBK0:=Qaa (Qcs w)
 have KP:=Qaa (Qnz da dn dc (fun q=>d.getD q 0) (knW w) (by omega) hdc (fun j _=>Qc4 HD.out.2 j) (by have h9:=HD.out.1; rw [hdn] at h9; exact h9))
 rw [hsg] at KP
 have HBB:=Qaa hB
 clear hX hrd hdn
 go_enter Tryz.func47,Tryz.ntmps47
 go_upto_if 38 with fail
 have hk:((w.alloc (Y #[I J 0,I J 0,V Q 0 0] 38)).alloc (Y #[I J 0,I J 64,I J 64,I J 64,I J 128,I J 64,I J 64,I J 192,I J 192] 3)).alloc (Y #[I J 0,I J 1,I J (-1),I J 4,I J 4,I J 4,I J 0,I J 8,I J (-1)] 3)=knW w:=rfl
 rw [hk]
 clear hk
 go_wp2_with fail
 refine KP.out.mono ?_
 rintro e w4 ⟨⟨v,rfl,hop⟩,hb4⟩
 obtain ⟨pp,pc,rfl⟩:=Qg1 hop
 have HX4:=Qaa (HX.out.later hb4)
 obtain ⟨p1,k1,r1,_⟩:=HX4.out.c1
 have fz:=HX4.out.fz 1
 have HBX:Hid (Box (w4.setCell ⟨X,1,Q⟩ (V pp p.length pc)) X B { a with path:=p }):=HX4.out.set 1 _ rfl ⟨pp,pc,rfl,hop.base (by omega)⟩ rfl rfl rfl rfl rfl
 have HBK:Hid ((w4.setCell ⟨X,1,Q⟩ (V pp p.length pc)).heap[w.heap.size]?=D (Y #[I J 0,I J 0,V Q 0 0] 38 (0,0))):=by show _=_; rw [Qbk _ _ _ _ _ (by omega)]; exact Qem hb4
 have HKP:Hid (Qae (Qa2 X B) w (w4.setCell ⟨X,1,Q⟩ (V pp p.length pc))):=(Qat ((Qad w).trans (hb4.mono (Qad w).size))).setCell X 1 _ (.inl (.inl rfl))
 obtain ⟨c0,c1,c2,f0,f1,f2⟩:=Qgt HBK.out
 have hX4:X < w4.heap.size:=HX4.out.pos
 generalize p.length=pl at *
 clear hop hb4 hks hXB
 go_wp2_with fail
 exact bodyPost_ret (v:=.agg #[I J 0,I J 0,V Q 0 0]) (by simp [results,Tryz.results47,go_sem,c0,c1,c2]) rfl ⟨rfl,by rw [Qcy HBK.out]; exact HBX.out,by rw [Qcy HBK.out]; exact HKP.out⟩
theorem Jat (fl:Nat)(X B:Nat)(a:At)(da:Option Addr)(dn dc:Nat)(la:Option Addr)(ln lc:Nat)(d all:List Nat)(w:World)(hf:fl < 256)(hX:Box w X B a)(hB:B≤w.heap.size)(hdn:d.length=dn)(hdc:dn≤dc)(hrd:BRd w da d)(h1:((fl:Int) / 64 * 64 != 64)=false)(h2:((fl:Int) / 32 % 2 == 1)=false)(hdl:dn≤10000)(hsg:Qa3 (fun q=>d.getD q 0) dn 0 []=Q) :
  Calls K 47 #[R (D ⟨X,0,Q⟩),I J (fl:Int),I J 2,V da dn dc,V la ln lc] w fun e w'=>∃ a9 c9,e=U (.agg #[I J 3,I J 11,V a9 0 c9])∧w'.ownsRow w.heap.size 5 1 (V a9 0 c9) 0 (Qal ([]:List Nat))∧Qae (Qa2 X B) w w':=by
 have hXl:=hX.pos
 have hXB:=hX.lt
 have HX:=Qaa (hX.later (Qad w))
 have HD:=Qaa (hrd.below (Qad w))
 have HDN:=Qaa hdn
 have hks:=Qaz w
 have hXN:X < (knW w).heap.size:=by omega
 have HBK0:=Qaa (Qcs w)
 have KP:=Qaa (Qnz da dn dc (fun q=>d.getD q 0) (knW w) (by omega) hdc (fun j _=>Qc4 HD.out.2 j) (by have h9:=HD.out.1; rw [hdn] at h9; exact h9))
 rw [hsg] at KP
 have HBB:=Qaa hB
 clear hX hrd hdn
 go_enter Tryz.func47,Tryz.ntmps47
 go_upto_if 38 with fail
 have hk:((w.alloc (Y #[I J 0,I J 0,V Q 0 0] 38)).alloc (Y #[I J 0,I J 64,I J 64,I J 64,I J 128,I J 64,I J 64,I J 192,I J 192] 3)).alloc (Y #[I J 0,I J 1,I J (-1),I J 4,I J 4,I J 4,I J 0,I J 8,I J (-1)] 3)=knW w:=rfl
 rw [hk]
 clear hk
 go_wp2_with fail
 refine KP.out.mono ?_
 rintro e w3 ⟨rfl,hb3⟩
 have HB3:=Qaa hb3
 clear hb3
 go_wp2_with fail
 refine (Qa9 3 11 Q 0 [] w3 (by simp) (Qbf w3 Q)).mono ?_
 rintro e w4 ⟨a9,c9,rfl,ho4,hb4⟩
 have hb34:Below (knW w).heap.size (knW w) w4:=HB3.out.trans (hb4.mono HB3.out.size)
 have HO4:=Qaa (Qan ho4 HB3.out.size)
 have HBK:=Qaa (Qem hb34)
 have HKP:Hid (Qae (Qa2 X B) w w4):=Qat ((Qad w).trans (hb34.mono (Qad w).size))
 have hz:w.heap.size < (knW w).heap.size:=by rw [Qaz]; omega
 have HZ:=Qaa hz
 clear ho4 hb4 hz hb34
 obtain ⟨c0,c1,c2,f0,f1,f2⟩:=Qgt HBK.out
 go_wp2_with fail
 exact bodyPost_ret (v:=.agg #[I J 3,I J 11,V a9 0 c9]) (by simp [results,Tryz.results47,go_sem,c0,c1,c2]) rfl ⟨a9,c9,rfl,Qan (Qac (Qac (Qac HO4.out HZ.out _ _) HZ.out _ _) HZ.out _ _) (E HZ.out),((HKP.out.setCell w.heap.size 0 _ (.inr (Z _))).setCell w.heap.size 1 _ (.inr (Z _))).setCell w.heap.size 2 _ (.inr (Z _))⟩
theorem Qug (n:Nat)(w:World):Calls K 73 #[I .u32 (n:Int)] w fun e w'=>e=U (.bool (Qk0 n))∧w'=w:=by
 have hs:(n:Int) / 2 ^ 24=((n / 16777216:Nat):Int):=by omega
 by_cases h0:n=0
 ·subst h0
  go_enter Tryz.func73,Tryz.ntmps73
  go_wp2
  go_ret
  exact ⟨rfl,rfl⟩
 ·have e0:((n:Int) != 0)=true:=by simp; omega
  by_cases h1:n / 16777216=127
  ·have HH:Hid (Qk0 n=false):=decide_eq_false (fun h=>h.2.1 h1)
   have e1:(n:Int) / 16777216=127:=by omega
   go_enter Tryz.func73,Tryz.ntmps73
   go_wp2
   go_ret
   exact ⟨Qa8 HH.out.symm,rfl⟩
  ·have e1:((n:Int) / 16777216 != 127)=true:=by simp; omega
   have HH:Hid (Qk0 n=decide ((n:Int) / 16777216 < 224)):=by
    show Qk0 n=_
    unfold Qk0
    rw [Bool.eq_iff_iff]
    simp only [decide_eq_true_eq]
    omega
   clear hs
   go_enter Tryz.func73,Tryz.ntmps73
   go_wp2
   go_ret
   exact ⟨Qa8 HH.out.symm,rfl⟩
set_option linter.unusedVariables false
theorem Qg4 (d:List Nat)(hd:∀ x∈d,x < 256):Qf8 d < 4294967296:=by
 have h0:=Qc4 hd 0
 have h1:=Qc4 hd 1
 have h2:=Qc4 hd 2
 have h3:=Qc4 hd 3
 unfold Qf8 num
 simp only
 omega
theorem Jad (fl:Nat)(X B:Nat)(a:At)(da:Option Addr)(dn dc:Nat)(la:Option Addr)(ln lc:Nat)(d all:List Nat)(w:World)(hf:fl < 256)(hX:Box w X B a)(hB:B≤w.heap.size)(hdn:d.length=dn)(hdc:dn≤dc)(hrd:BRd w da d)(h1:((fl:Int) / 64 * 64 != 128)=false)(h2:((fl:Int) / 32 % 2 == 1)=false)(hd1:dn=4) :
  Calls K 47 #[R (D ⟨X,0,Q⟩),I J (fl:Int),I J 4,V da dn dc,V la ln lc] w fun e w'=>e=U (.agg #[I J 0,I J 0,V Q 0 0])∧Box w' X B ({ a with med:=((Qf8 d:Nat):Int) })∧Qae (Qa2 X B) w w':=by
 have hXl:=hX.pos
 have hXB:=hX.lt
 have HX:=Qaa (hX.later (Qad w))
 have HD:=Qaa (hrd.below (Qad w))
 have HDN:=Qaa hdn
 have hks:=Qaz w
 have hXN:X < (knW w).heap.size:=by omega
 have HBK0:=Qaa (Qcs w)
 subst hd1
 obtain ⟨b,o,rfl,hc⟩:=HD.out.1.2 (by rw [hdn]; omega)
 have KU:Hid (Calls K 25 #[V (D ⟨b,o,Q⟩) 4 dc] (knW w) fun e w'=>e=U (I J (Qf8 d:Int))∧Below (knW w).heap.size (knW w) w'):=(Qf5 b o 4 dc (fun q=>d.getD q 0) (knW w) (by omega) (fun i _=>Qc4 HD.out.2 i) (fun i hi=>hc i (by rw [hdn]; exact hi))).mono fun e w' h=>⟨h.1,by obtain ⟨_,k,hk⟩:=h; rw [hk]; exact Qaj (Below.refl _ _) k⟩
 have hnl:=Qg4 d HD.out.2
 have HNL:Hid (Qf8 d=Qf8 d):=rfl
 generalize Qf8 d=nn at *
 clear hX hrd hc HNL
 go_enter Tryz.func47,Tryz.ntmps47
 go_upto_if 38 with fail
 have hk:((w.alloc (Y #[I J 0,I J 0,V Q 0 0] 38)).alloc (Y #[I J 0,I J 64,I J 64,I J 64,I J 128,I J 64,I J 64,I J 192,I J 192] 3)).alloc (Y #[I J 0,I J 1,I J (-1),I J 4,I J 4,I J 4,I J 0,I J 8,I J (-1)] 3)=knW w:=rfl
 rw [hk]
 clear hk
 go_wp2_with fail
 refine KU.out.mono ?_
 rintro e w4 ⟨rfl,hb4⟩
 have HX4:=Qaa (HX.out.later hb4)
 have rj:=HX4.out.c3
 have fz:=HX4.out.fz 3
 have HBX:Hid (Box (w4.setCell ⟨X,3,Q⟩ (I J (nn:Int))) X B { a with med:=((nn:Nat):Int) }):=HX4.out.set 3 _ rfl rfl rfl rfl rfl rfl rfl
 have HBK:Hid ((w4.setCell ⟨X,3,Q⟩ (I J (nn:Int))).heap[w.heap.size]?=D (Y #[I J 0,I J 0,V Q 0 0] 38 (0,0))):=by show _=_; rw [Qbk _ _ _ _ _ (by omega)]; exact Qem hb4
 have HKP:Hid (Qae (Qa2 X B) w (w4.setCell ⟨X,3,Q⟩ (I J (nn:Int)))):=(Qat ((Qad w).trans (hb4.mono (Qad w).size))).setCell X 3 _ (.inl (.inl rfl))
 have hX4:X < w4.heap.size:=HX4.out.pos
 obtain ⟨c0,c1,c2,f0,f1,f2⟩:=Qgt HBK.out
 clear hb4 hks hXB
 go_wp2_with fail
 exact bodyPost_ret (v:=.agg #[I J 0,I J 0,V Q 0 0]) (by simp [results,Tryz.results47,go_sem,c0,c1,c2]) rfl ⟨rfl,by rw [Qcy HBK.out]; exact HBX.out,by rw [Qcy HBK.out]; exact HKP.out⟩
theorem Jbh (fl:Nat)(X B:Nat)(a:At)(da:Option Addr)(dn dc:Nat)(la:Option Addr)(ln lc:Nat)(d all:List Nat)(w:World)(hf:fl < 256)(hX:Box w X B a)(hB:B≤w.heap.size)(hdn:d.length=dn)(hdc:dn≤dc)(hrd:BRd w da d)(h1:((fl:Int) / 64 * 64 != 64)=false)(h2:((fl:Int) / 32 % 2 == 1)=false)(hd1:dn=4) :
  Calls K 47 #[R (D ⟨X,0,Q⟩),I J (fl:Int),I J 5,V da dn dc,V la ln lc] w fun e w'=>e=U (.agg #[I J 0,I J 0,V Q 0 0])∧Box w' X B ({ a with pref:=((Qf8 d:Nat):Int) })∧Qae (Qa2 X B) w w':=by
 have hXl:=hX.pos
 have hXB:=hX.lt
 have HX:=Qaa (hX.later (Qad w))
 have HD:=Qaa (hrd.below (Qad w))
 have HDN:=Qaa hdn
 have hks:=Qaz w
 have hXN:X < (knW w).heap.size:=by omega
 have HBK0:=Qaa (Qcs w)
 subst hd1
 obtain ⟨b,o,rfl,hc⟩:=HD.out.1.2 (by rw [hdn]; omega)
 have KU:Hid (Calls K 25 #[V (D ⟨b,o,Q⟩) 4 dc] (knW w) fun e w'=>e=U (I J (Qf8 d:Int))∧Below (knW w).heap.size (knW w) w'):=(Qf5 b o 4 dc (fun q=>d.getD q 0) (knW w) (by omega) (fun i _=>Qc4 HD.out.2 i) (fun i hi=>hc i (by rw [hdn]; exact hi))).mono fun e w' h=>⟨h.1,by obtain ⟨_,k,hk⟩:=h; rw [hk]; exact Qaj (Below.refl _ _) k⟩
 have hnl:=Qg4 d HD.out.2
 have HNL:Hid (Qf8 d=Qf8 d):=rfl
 generalize Qf8 d=nn at *
 clear hX hrd hc HNL
 go_enter Tryz.func47,Tryz.ntmps47
 go_upto_if 38 with fail
 have hk:((w.alloc (Y #[I J 0,I J 0,V Q 0 0] 38)).alloc (Y #[I J 0,I J 64,I J 64,I J 64,I J 128,I J 64,I J 64,I J 192,I J 192] 3)).alloc (Y #[I J 0,I J 1,I J (-1),I J 4,I J 4,I J 4,I J 0,I J 8,I J (-1)] 3)=knW w:=rfl
 rw [hk]
 clear hk
 go_wp2_with fail
 refine KU.out.mono ?_
 rintro e w4 ⟨rfl,hb4⟩
 have HX4:=Qaa (HX.out.later hb4)
 have rj:=HX4.out.c4
 have fz:=HX4.out.fz 4
 have HBX:Hid (Box (w4.setCell ⟨X,4,Q⟩ (I J (nn:Int))) X B { a with pref:=((nn:Nat):Int) }):=HX4.out.set 4 _ rfl rfl rfl rfl rfl rfl rfl
 have HBK:Hid ((w4.setCell ⟨X,4,Q⟩ (I J (nn:Int))).heap[w.heap.size]?=D (Y #[I J 0,I J 0,V Q 0 0] 38 (0,0))):=by show _=_; rw [Qbk _ _ _ _ _ (by omega)]; exact Qem hb4
 have HKP:Hid (Qae (Qa2 X B) w (w4.setCell ⟨X,4,Q⟩ (I J (nn:Int)))):=(Qat ((Qad w).trans (hb4.mono (Qad w).size))).setCell X 4 _ (.inl (.inl rfl))
 have hX4:X < w4.heap.size:=HX4.out.pos
 obtain ⟨c0,c1,c2,f0,f1,f2⟩:=Qgt HBK.out
 clear hb4 hks hXB
 go_wp2_with fail
 exact bodyPost_ret (v:=.agg #[I J 0,I J 0,V Q 0 0]) (by simp [results,Tryz.results47,go_sem,c0,c1,c2]) rfl ⟨rfl,by rw [Qcy HBK.out]; exact HBX.out,by rw [Qcy HBK.out]; exact HKP.out⟩
theorem Jaq (fl:Nat)(X B:Nat)(a:At)(da:Option Addr)(dn dc:Nat)(la:Option Addr)(ln lc:Nat)(d all:List Nat)(w:World)(hf:fl < 256)(hX:Box w X B a)(hB:B≤w.heap.size)(hdn:d.length=dn)(hdc:dn≤dc)(hrd:BRd w da d)(h1:((fl:Int) / 64 * 64 != 64)=false)(h2:((fl:Int) / 32 % 2 == 1)=false)(hd1:dn=4)(hhop:Qk0 (Qf8 d)=true) :
  Calls K 47 #[R (D ⟨X,0,Q⟩),I J (fl:Int),I J 3,V da dn dc,V la ln lc] w fun e w'=>e=U (.agg #[I J 0,I J 0,V Q 0 0])∧Box w' X B ({ a with next:=Qf8 d })∧Qae (Qa2 X B) w w':=by
 have hXl:=hX.pos
 have hXB:=hX.lt
 have HX:=Qaa (hX.later (Qad w))
 have HD:=Qaa (hrd.below (Qad w))
 have HDN:=Qaa hdn
 have hks:=Qaz w
 have hXN:X < (knW w).heap.size:=by omega
 have HBK0:=Qaa (Qcs w)
 have HHOP:=Qaa hhop
 clear hhop
 subst hd1
 obtain ⟨b,o,rfl,hc⟩:=HD.out.1.2 (by rw [hdn]; omega)
 have KU:Hid (Calls K 25 #[V (D ⟨b,o,Q⟩) 4 dc] (knW w) fun e w'=>e=U (I J (Qf8 d:Int))∧Below (knW w).heap.size (knW w) w'):=(Qf5 b o 4 dc (fun q=>d.getD q 0) (knW w) (by omega) (fun i _=>Qc4 HD.out.2 i) (fun i hi=>hc i (by rw [hdn]; exact hi))).mono fun e w' h=>⟨h.1,by obtain ⟨_,k,hk⟩:=h; rw [hk]; exact Qaj (Below.refl _ _) k⟩
 have hnl:=Qg4 d HD.out.2
 have HNL:Hid (Qf8 d=Qf8 d):=rfl
 generalize Qf8 d=nn at *
 clear hX hrd hc HNL
 go_enter Tryz.func47,Tryz.ntmps47
 go_upto_if 38 with fail
 have hk:((w.alloc (Y #[I J 0,I J 0,V Q 0 0] 38)).alloc (Y #[I J 0,I J 64,I J 64,I J 64,I J 128,I J 64,I J 64,I J 192,I J 192] 3)).alloc (Y #[I J 0,I J 1,I J (-1),I J 4,I J 4,I J 4,I J 0,I J 8,I J (-1)] 3)=knW w:=rfl
 rw [hk]
 clear hk
 go_wp2_with fail
 refine KU.out.mono ?_
 rintro e w4 ⟨rfl,hb4⟩
 have HX4:=Qaa (HX.out.later hb4)
 have rj:=HX4.out.c2
 have fz:=HX4.out.fz 2
 have HBX:Hid (Box (w4.setCell ⟨X,2,Q⟩ (I .u32 (nn:Int))) X B { a with next:=nn }):=HX4.out.set 2 _ rfl rfl rfl rfl rfl rfl rfl
 have HBK:Hid ((w4.setCell ⟨X,2,Q⟩ (I .u32 (nn:Int))).heap[w.heap.size]?=D (Y #[I J 0,I J 0,V Q 0 0] 38 (0,0))):=by show _=_; rw [Qbk _ _ _ _ _ (by omega)]; exact Qem hb4
 have HKP:Hid (Qae (Qa2 X B) w (w4.setCell ⟨X,2,Q⟩ (I .u32 (nn:Int)))):=(Qat ((Qad w).trans (hb4.mono (Qad w).size))).setCell X 2 _ (.inl (.inl rfl))
 have hX4:X < w4.heap.size:=HX4.out.pos
 obtain ⟨W,hW⟩:∃ W,W=w4.setCell ⟨X,2,Q⟩ (I .u32 (nn:Int)):=⟨_,rfl⟩
 have KH:=Qaa (Qug nn W)
 rw [HHOP.out] at KH
 have y2:W.cell? ⟨X,2,Q⟩=D (I .u32 (nn:Int)):=by rw [hW]; exact World.cell?_setCell_same _ _ _ rj
 rw [← hW] at HBX HBK HKP
 obtain ⟨c0,c1,c2,f0,f1,f2⟩:=Qgt HBK.out
 clear hb4 hks hXB
 go_wp2_with fail
 rw [← hW]
 clear hW
 refine KH.out.mono ?_
 rintro e w5 ⟨rfl,rfl⟩
 go_wp2_with fail
 exact bodyPost_ret (v:=.agg #[I J 0,I J 0,V Q 0 0]) (by simp [results,Tryz.results47,go_sem,c0,c1,c2]) rfl ⟨rfl,by rw [Qcy HBK.out]; exact HBX.out,by rw [Qcy HBK.out]; exact HKP.out⟩
theorem Jbp (fl:Nat)(X B:Nat)(a:At)(da:Option Addr)(dn dc:Nat)(la:Option Addr)(ln lc:Nat)(d all:List Nat)(w:World)(hf:fl < 256)(hX:Box w X B a)(hB:B≤w.heap.size)(hdn:d.length=dn)(hdc:dn≤dc)(hrd:BRd w da d)(hl:all.length=ln)(hln:ln≤60000)(hr:BRd w la all)(h1:((fl:Int) / 64 * 64 != 64)=false)(h2:((fl:Int) / 32 % 2 == 1)=false)(hlX:∀ x,la=D x→0 < all.length→¬ x.block=X)(hd1:dn=4)(hhop:Qk0 (Qf8 d)=false) :
  Calls K 47 #[R (D ⟨X,0,Q⟩),I J (fl:Int),I J 3,V da dn dc,V la ln lc] w fun e w'=>∃ a9 c9,e=U (.agg #[I J 3,I J 8,V a9 ln c9])∧w'.ownsRow w.heap.size 5 1 (V a9 ln c9) ln (Qal all)∧Qae (Qa2 X B) w w':=by
 have HHOP:=Qaa hhop
 have HL:=Qaa hl
 have HR:=Qaa hr
 have HLX:=Qaa hlX
 have hXl:=hX.pos
 have hXB:=hX.lt
 have HX:=Qaa (hX.later (Qad w))
 have HD:=Qaa (hrd.below (Qad w))
 have HDN:=Qaa hdn
 have hks:=Qaz w
 have hXN:X < (knW w).heap.size:=by omega
 have HBK0:=Qaa (Qcs w)
 subst hd1
 obtain ⟨b,o,rfl,hc⟩:=HD.out.1.2 (by rw [hdn]; omega)
 have KU:Hid (Calls K 25 #[V (D ⟨b,o,Q⟩) 4 dc] (knW w) fun e w'=>e=U (I J (Qf8 d:Int))∧Below (knW w).heap.size (knW w) w'):=(Qf5 b o 4 dc (fun q=>d.getD q 0) (knW w) (by omega) (fun i _=>Qc4 HD.out.2 i) (fun i hi=>hc i (by rw [hdn]; exact hi))).mono fun e w' h=>⟨h.1,by obtain ⟨_,k,hk⟩:=h; rw [hk]; exact Qaj (Below.refl _ _) k⟩
 have hnl:=Qg4 d HD.out.2
 have HNL:Hid (Qf8 d=Qf8 d):=rfl
 generalize Qf8 d=nn at *
 clear hX hrd hc HNL
 clear hhop hl hr hlX
 go_enter Tryz.func47,Tryz.ntmps47
 go_upto_if 38 with fail
 have hk:((w.alloc (Y #[I J 0,I J 0,V Q 0 0] 38)).alloc (Y #[I J 0,I J 64,I J 64,I J 64,I J 128,I J 64,I J 64,I J 192,I J 192] 3)).alloc (Y #[I J 0,I J 1,I J (-1),I J 4,I J 4,I J 4,I J 0,I J 8,I J (-1)] 3)=knW w:=rfl
 rw [hk]
 clear hk
 go_wp2_with fail
 refine KU.out.mono ?_
 rintro e w4 ⟨rfl,hb4⟩
 have HX4:=Qaa (HX.out.later hb4)
 have rj:=HX4.out.c2
 have fz:=HX4.out.fz 2
 have HBX:Hid (Box (w4.setCell ⟨X,2,Q⟩ (I .u32 (nn:Int))) X B { a with next:=nn }):=HX4.out.set 2 _ rfl rfl rfl rfl rfl rfl rfl
 have HBK:Hid ((w4.setCell ⟨X,2,Q⟩ (I .u32 (nn:Int))).heap[w.heap.size]?=D (Y #[I J 0,I J 0,V Q 0 0] 38 (0,0))):=by show _=_; rw [Qbk _ _ _ _ _ (by omega)]; exact Qem hb4
 have HKP:Hid (Qae (Qa2 X B) w (w4.setCell ⟨X,2,Q⟩ (I .u32 (nn:Int)))):=(Qat ((Qad w).trans (hb4.mono (Qad w).size))).setCell X 2 _ (.inl (.inl rfl))
 have hX4:X < w4.heap.size:=HX4.out.pos
 obtain ⟨W,hW⟩:∃ W,W=w4.setCell ⟨X,2,Q⟩ (I .u32 (nn:Int)):=⟨_,rfl⟩
 have KH:=Qaa (Qug nn W)
 rw [HHOP.out] at KH
 have y2:W.cell? ⟨X,2,Q⟩=D (I .u32 (nn:Int)):=by rw [hW]; exact World.cell?_setCell_same _ _ _ rj
 have hb0W:Qae (fun k=>k=X) w W:=by rw [hW]; exact (Qae.of_below ((Qad w).trans (hb4.mono (Qad w).size)) _).setCell X 2 _ (.inl rfl)
 have HBR:=Qaa (HR.out.keeps hb0W HLX.out)
 have hWs:(knW w).heap.size≤W.heap.size:=by rw [hW]; simp; exact hb4.size
 have HWS:=Qaa hWs
 rw [← hW] at HBX HBK HKP
 clear hb4 hks hXB hb0W hWs
 go_wp2_with fail
 rw [← hW]
 clear hW
 refine KH.out.mono ?_
 rintro e w5 ⟨rfl,rfl⟩
 go_wp2_with fail
 have KN:=Qaa (Qa9 3 8 la lc all w5 (by have:=HL.out; omega) HBR.out)
 rw [HL.out] at KN
 refine KN.out.mono ?_
 rintro e w6 ⟨a9,c9,rfl,ho4,hb6⟩
 have HO4:=Qaa (Qan ho4 HWS.out)
 have HBK6:Hid (w6.heap[w.heap.size]?=D (Y #[I J 0,I J 0,V Q 0 0] 38 (0,0))):=by show _=_; rw [hb6.block _ (by have:=HWS.out; have:=Qaz w; omega)]; exact HBK.out
 have HKP6:Hid (Qae (Qa2 X B) w w6):=HKP.out.trans (Qat hb6) (fun b _ h=>h)
 have hz:w.heap.size < (knW w).heap.size:=by rw [Qaz]; omega
 have HZ:=Qaa hz
 clear ho4 hb6 hz
 obtain ⟨c0,c1,c2,f0,f1,f2⟩:=Qgt HBK6.out
 go_wp2_with fail
 exact bodyPost_ret (v:=.agg #[I J 3,I J 8,V a9 ln c9]) (by simp [results,Tryz.results47,go_sem,c0,c1,c2]) rfl ⟨a9,c9,rfl,Qan (Qac (Qac (Qac HO4.out HZ.out _ _) HZ.out _ _) HZ.out _ _) (E HZ.out),((HKP6.out.setCell w.heap.size 0 _ (.inr (Z _))).setCell w.heap.size 1 _ (.inr (Z _))).setCell w.heap.size 2 _ (.inr (Z _))⟩
