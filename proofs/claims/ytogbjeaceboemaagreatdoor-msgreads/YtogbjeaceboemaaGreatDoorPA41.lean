import Derived.Test.YtogbjeaceboemaaGreatDoorPA16
import Derived.Test.YtogbjeaceboemaaGreatDoorPA15
import Derived.Test.YtogbjeaceboemaaGreatDoorPA39
import Derived.Test.YtogbjeaceboemaaGreatDoorPA13
import Derived.Test.YtogbjeaceboemaaGreatDoorPA4
import Derived.Test.YtogbjeaceboemaaGreatDoorPA17
import Derived.Test.YtogbjeaceboemaaGreatDoorPA2
import Derived.Deep.RegionWith
import Derived.Test.YtogbjeaceboemaaGreatDoorPA1
import Derived.Deep.DrawnRows
import Derived.Test.YtogbjeaceboemaaGreatDoorPA21
import Derived.Deep.RegionHeld3
import Derived.Deep.DeepCutAuto
import Derived.Test.YtogbjeaceboemaaGreatDoorPA25
import Derived.Test.YtogbjeaceboemaaGreatDoorPA6
import Derived.Test.YtogbjeaceboemaaGreatDoorPA40
import Derived.Test.YtogbjeaceboemaaGreatDoorPA3
import Derived.Test.YtogbjeaceboemaaGreatDoorPA37
import Derived.Test.YtogbjeaceboemaaGreatDoorPA9
namespace Go.Proofs.YtogbjeaceboemaaGreatDoor
open Go.RowKit
set_option maxRecDepth 100000
def DoIs (w w':World)(e:Ending)(r:(Nat×Nat×List Nat) ⊕ (Int×Nat×Nat×Cp)):Prop:=match r with
 | .inl (k,s,d)=>BadIs w w' e k s d
 | .inr (a,h,i,c)=>e=.returned (.tuple #[.agg (openMsg 1 (openC a h i c)),.agg #[.int .i64 0,.int .i64 0,.slice none 0 0]])
section
attribute [local go_sem ↓] keptM_load keptM_store keptM_alloc keptM_build keptO_store
set_option maxHeartbeats 4000000 in
theorem dec_open_bad (g o n cp:Nat)(bs:List Nat)(w:World)(hn:bs.length=n)(hn29:29≤n)(hl:n≤5000)(hcap:n≤cp)(h:BRd w (some ⟨g,o,none⟩) bs)(hS:SaidM w)(hr:headM bs=(n,0,0,[]))(hk1:bs.getD 18 0=1)(k s:Nat)(d:List Nat)(hk:k≠0)(ho:openR (bs.drop 19)=.inl (k,s,d)) :
  Calls Tryz.prog 10 #[.slice (some ⟨g,o,none⟩) n cp] w fun e w'=>BadIs w w' e k s d∧Below w.heap.size w w':=by
 have KH:=head_dW (some ⟨g,o,none⟩) cp bs w (by omega) (by omega) h hS _ hr
 rw [hn] at KH
 have HK:=hide KH
 obtain ⟨g',o',e9,hc⟩:=h.1.2 (by omega)
 cases e9
 have c18:w.cell? ⟨g,o+18,none⟩=some (.int .u8 1):=by rw [hc 18 (by omega)]; show some (Value.int .u8 ((bs.getD 18 0:Nat):Int))=_; rw [hk1]; rfl
 have zg:=World.block_lt_of_cell? w _ c18
 simp only at zg
 have KO:Hid (∀ X,Below w.heap.size w X→Calls Tryz.prog 25 #[.slice (some ⟨g,o+19,none⟩) (n - 19) (cp - 19)] X fun e w'=>OpIs X w' e (openR (bs.drop 19))∧Below X.heap.size X w'):=fun X hX =>
  readopen_any g (o+19) (n - 19) (cp - 19) (bs.drop 19) X (by rw [List.length_drop,hn]) (by omega) (by omega) (by omega) (brd_drop (h.below hX) (by omega))
 have hcp19:¬ cp=19:=by omega
 have hni:¬ ((n:Int) < 19):=by omega
 have H29:Hid (29≤n∧n≤5000):=⟨hn29,hl⟩
 clear KH h hS hcap hr hn hk1 hc hl hn29
 simp only at HK
 rw [ho] at KO
 unfold OpIs NoteIs at KO
 unfold BadIs NoteIs
 simp only at KO
 have hkz:((k:Int) != 0)=true:=by simp; omega
 clear ho
 generalize d.length=dl at *
 go_enter Tryz.func10,Tryz.ntmps10
 go_wp2_with (refine keptM_alloc_intro _ (run_allocM w) ?_)
 show Calls Tryz.prog 23 #[.slice (some ⟨g,o,none⟩) n cp] (dW w) _
 with_reducible refine HK.out.mono ?_
 rintro e w1 ⟨a9,c9,rfl,HO,HB⟩
 have HH:=hide (h6_of a9 0 c9 HB.out zg c18)
 go_wp2_with fail
 generalize (w1.alloc (.cells #[.int .i64 0,.int .i64 0,.slice a9 0 c9] 38))=W at *
 refine m_region _ W g o n cp 1 (opi rfl) (opi rfl) (opi rfl) (opi rfl) (opi rfl) (opi rfl) (opi rfl) (opi rfl) (opi rfl) (opi rfl) rfl (by kernel_rfl)
  (by kernel_rfl) (by kernel_rfl) (by kernel_rfl) (by kernel_rfl) (by kernel_rfl) (by kernel_rfl) (by kernel_rfl) (by kernel_rfl) (by kernel_rfl) (by kernel_rfl) (by kernel_rfl)
  rfl rfl (by have:=H29.out.1; omega) (by have:=H29.out.2; omega) (by omega) HH.out.c18 ?_
 intro a W6 hfr h6 h7 bY hb6
 rw [if_neg hcp19] at h7
 obtain ⟨x0,x1,x2,x3,x4,x5,x6,rfl⟩:=hfr.lay9m (by exact (by decide:∀ s∈[29,30,31,32,33,34,35,6,7],s < 75)) h6 h7
 have HD:Hid (D6 w W6 w1.heap.size W.heap.size (msgC 1 0 0 (.slice none 0 0)) (.slice a9 0 c9)):=HH.out.d6 bY hb6
 have hsz:=HH.out.le
 have y0:W6.cell? ⟨W.heap.size,0,none⟩=some (.int .i64 1):=range_of HD.out.bY 0 _ rfl
 have zY:W.heap.size < W6.heap.size:=HD.out.hs
 clear hfr h6 h7 bY hb6
 simp only [Act.put,List.setIfInBounds_toArray,List.set_cons_zero,List.set_cons_succ]
 go_wp2_with fail
 with_reducible refine (KO.out W6 HD.out.bel).mono ?_
 rintro e w7 ⟨hop,hb7⟩
 obtain ⟨u,rfl,a8,c8,rfl,ho⟩:=hop
 obtain ⟨W8,hst,b8,o8,z8,k8⟩:=store_open (w:=w7) (Y:=W.heap.size) (k:=1) (O:=zO) OC.zero (by rw [hb7.block _ zY]; exact HD.out.bY)
 have hX8:W8.heap[w1.heap.size]?=some (.cells #[.int .i64 0,.int .i64 0,.slice a9 0 c9] 38 (0,0)):=by
  rw [o8 _ (by have:=HD.out.hY; omega),hb7.block _ (by have:=HD.out.hY; omega)]; exact HD.out.bX
 have hX:=range_of hX8
 have zX8:w1.heap.size < W8.heap.size:=(Array.getElem?_eq_some_iff.1 hX8).1
 have r0:W8.cell? ⟨w1.heap.size,0,none⟩=some (.int .i64 0):=by have:=hX 0 _ rfl; simpa using this
 have r1:W8.cell? ⟨w1.heap.size,1,none⟩=some (.int .i64 0):=by have:=hX 1 _ rfl; simpa using this
 have r2:W8.cell? ⟨w1.heap.size,2,none⟩=some (.slice a9 0 c9):=by have:=hX 2 _ rfl; simpa using this
 have ff:∀ j,W8.frozen? ⟨w1.heap.size,j,none⟩=false:=fun j=>by simp [World.frozen?,hX8]
 have f0:=ff 0
 have f1:=ff 1
 have f2:=ff 2
 have HST:=hide hst
 have zx:w1.heap.size≠W.heap.size∧w.heap.size+2≤w1.heap.size∧w1.heap.size < W.heap.size:=by have:=HD.out.hX; have:=HD.out.hY; omega
 have h9M:(W8.setCells w1.heap.size 0 [.int .i64 (k:Int),.int .i64 (s:Int),.slice a8 dl c8]).heap[w.heap.size]?=some (.cells zM 40 (0,0)):=by
  rw [heap_sets (by omega),o8 _ (by omega),hb7.block _ (by omega)]; exact HD.out.bM
 have h9N:(W8.setCells w1.heap.size 0 [.int .i64 (k:Int),.int .i64 (s:Int),.slice a8 dl c8]).heap[w.heap.size+1]?=some (.cells #[.int .i64 0,.int .i64 0,.slice none 0 0] 38 (0,0)):=by
  rw [heap_sets (by omega),o8 _ (by omega),hb7.block _ (by omega)]; exact HD.out.bN
 have h9X:(W8.setCells w1.heap.size 0 [.int .i64 (k:Int),.int .i64 (s:Int),.slice a8 dl c8]).heap[w1.heap.size]?=some (.cells #[.int .i64 (k:Int),.int .i64 (s:Int),.slice a8 dl c8] 38 (0,0)):=bx_put (C:=#[.int .i64 (k:Int),.int .i64 (s:Int),.slice a8 dl c8]) hX8 rfl
 have h9Y:(W8.setCells w1.heap.size 0 [.int .i64 (k:Int),.int .i64 (s:Int),.slice a8 dl c8]).heap[W.heap.size]?=some (.cells (openMsg 1 zO) 40 (0,0)):=by
  rw [heap_sets (by omega)]; exact b8
 have k9:Keeps (fun x=>x=W.heap.size∨x=w1.heap.size) w7 (W8.setCells w1.heap.size 0 [.int .i64 (k:Int),.int .i64 (s:Int),.slice a8 dl c8]):=(k8.mono (fun x _ e=>.inl e)).setCells _ 0 _ (.inl (.inr rfl))
 have b9:Below w.heap.size w (W8.setCells w1.heap.size 0 [.int .i64 (k:Int),.int .i64 (s:Int),.slice a8 dl c8]):=(HD.out.bel.trans (hb7.mono HD.out.bel.size)).trans (k9.below _ (by have:=HD.out.bel.size; have:=hb7.size; omega) (fun x e=>by omega))
 have z9:(W8.setCells w1.heap.size 0 [.int .i64 (k:Int),.int .i64 (s:Int),.slice a8 dl c8]).heap.size=w7.heap.size:=by
  have:∀ (vs:List Value) (o:Nat) (w:World),(w.setCells w1.heap.size o vs).heap.size=w.heap.size:=by
   intro vs
   induction vs with
   | nil=>intro o w; rfl
   | cons v r ih=>intro o w; rw [World.setCells,ih]; simp
  rw [this,z8]
 have HOW9:Hid ((W8.setCells w1.heap.size 0 [.int .i64 (k:Int),.int .i64 (s:Int),.slice a8 dl c8]).ownsRow W6.heap.size 5 1 (.slice a8 dl c8) dl (bcells d)):=own_keep ho k9 (fun x hx=>by omega)
 have x9:(W8.setCells w1.heap.size 0 [.int .i64 (k:Int),.int .i64 (s:Int),.slice a8 dl c8]).cell? ⟨w1.heap.size,0,none⟩=some (.int .i64 (k:Int)):=by have:=range_of h9X 0 _ rfl; simpa using this
 have H9M:=hide h9M
 have H9N:=hide h9N
 have H9X:=hide h9X
 have H9Y:=hide h9Y
 have B9:=hide b9
 have Z9:=hide z9
 have zXx:w1.heap.size < (W8.setCells w1.heap.size 0 [.int .i64 (k:Int),.int .i64 (s:Int),.slice a8 dl c8]).heap.size:=(Array.getElem?_eq_some_iff.1 h9X).1
 have zYx:W.heap.size < (W8.setCells w1.heap.size 0 [.int .i64 (k:Int),.int .i64 (s:Int),.slice a8 dl c8]).heap.size:=(Array.getElem?_eq_some_iff.1 h9Y).1
 clear h9M h9N h9X h9Y b9 z9 hst b8 o8 z8 k8 hX8 hX k9 ff hb7
 obtain ⟨W9,hW9⟩:∃ W9,W9=W8.setCells w1.heap.size 0 [.int .i64 (k:Int),.int .i64 (s:Int),.slice a8 dl c8]:=⟨_,rfl⟩
 rw [← hW9] at H9M H9N H9X H9Y B9 Z9 x9 zXx zYx HOW9
 go_wp2_with (refine keptO_store_intro _ _ (.pointer (some ⟨W.heap.size,1,none⟩)) (.agg zO) (by rfl) (by rfl) HST.out ?_)
 show Code.wp _ _ _ _ (W8.setCells w1.heap.size 0 [.int .i64 (k:Int),.int .i64 (s:Int),.slice a8 dl c8])
 rw [← hW9]
 clear hW9
 refine out_region _ W9 w.heap.size (w.heap.size+1) 40 zM zM #[.int .i64 0,.int .i64 0,.slice none 0 0] #[.int .i64 (k:Int),.int .i64 (s:Int),.slice a8 dl c8] 71 72 _ _ (opi rfl) (opi rfl) (opi rfl) (opi rfl) rfl (by kernel_rfl) (by kernel_rfl) (by kernel_rfl) (by kernel_rfl) (by kernel_rfl) (by kernel_rfl) (by kernel_rfl) (by kernel_rfl)
  (fun ty po af W' _=>run_of_build W') (fun ty po af W' hW=>run_of_loadN (g:=w1.heap.size) (by rfl) (by
   rw [hW.block _ zXx (by omega)]; exact H9X.out)) rfl rfl (show 71 < 75 by decide) (show 72 < 75 by decide) (by decide) H9M.out H9N.out (by omega) rfl rfl infoM infoN MC.zero.2 (by simp [Value.oneCell']) ?_
 simp only [Act.put,List.setIfInBounds_toArray,List.set_cons_zero,List.set_cons_succ]
 have HRM:Hid (((({ W9 with drawn:=W9.drawn+1 } : World).setCells w.heap.size 0 zM.toList).setCells (w.heap.size+1) 0 (#[Value.int .i64 (k:Int),.int .i64 (s:Int),.slice a8 dl c8]:Array Value).toList).rangeAt w.heap.size 0 zM.toList):=bx_apart (bx_set (w:={ W9 with drawn:=W9.drawn+1 }) H9M.out (Nat.le_of_eq (MC.zero.1.trans MC.zero.1.symm))) (by omega)
 have HRN:Hid (((({ W9 with drawn:=W9.drawn+1 } : World).setCells w.heap.size 0 zM.toList).setCells (w.heap.size+1) 0 (#[Value.int .i64 (k:Int),.int .i64 (s:Int),.slice a8 dl c8]:Array Value).toList).rangeAt (w.heap.size+1) 0 (#[Value.int .i64 (k:Int),.int .i64 (s:Int),.slice a8 dl c8]:Array Value).toList) :=
  bx_set (C0:=#[.int .i64 0,.int .i64 0,.slice none 0 0]) (t:=38) (by rw [heap_sets (by omega)]; exact H9N.out) (by simp)
 have HKe:Hid (Keeps (fun x=>x=w.heap.size∨x=w.heap.size+1) W9 ((({ W9 with drawn:=W9.drawn+1 } : World).setCells w.heap.size 0 zM.toList).setCells (w.heap.size+1) 0 (#[Value.int .i64 (k:Int),.int .i64 (s:Int),.slice a8 dl c8]:Array Value).toList)) :=
  (Keeps.setCells (w:=W9) (w1:={ W9 with drawn:=W9.drawn+1 }) ⟨rfl,rfl,rfl,Nat.le_refl _,fun _ _ _=>rfl⟩ _ 0 _ (.inl (.inl rfl))).setCells _ 0 _ (.inl (.inr rfl))
 generalize ((({ W9 with drawn:=W9.drawn+1 } : World).setCells w.heap.size 0 zM.toList).setCells (w.heap.size+1) 0 (#[Value.int .i64 (k:Int),.int .i64 (s:Int),.slice a8 dl c8]:Array Value).toList)=WE at *
 go_wp2_with fail
 refine bodyPost_ret (v:=.tuple #[.agg zM,.agg #[.int .i64 (k:Int),.int .i64 (s:Int),.slice a8 dl c8]]) (res_cells2 Tryz.results10 _ WE w.heap.size (w.heap.size+1) zM _ rfl rfl HRM.out HRN.out Tryz.underlying40 rfl infoM Tryz.underlying38 rfl infoN) rfl ⟨⟨_,rfl,a8,c8,rfl,own_low (own_keep HOW9.out HKe.out (fun x hx=>by omega)) (by have:=HD.out.bel.size; omega)⟩,B9.out.trans (HKe.out.below _ B9.out.size (fun x e=>by omega))⟩
set_option maxHeartbeats 4000000 in
theorem dec_open_good (g o n cp:Nat)(bs:List Nat)(w:World)(hn:bs.length=n)(hn29:29≤n)(hl:n≤5000)(hcap:n≤cp)(h:BRd w (some ⟨g,o,none⟩) bs)(hS:SaidM w)(hr:headM bs=(n,0,0,[]))(hk1:bs.getD 18 0=1)(AV:Int)(hh ii:Nat)(cc:Cp)(ho:openR (bs.drop 19)=.inr (AV,hh,ii,cc)) :
  Calls Tryz.prog 10 #[.slice (some ⟨g,o,none⟩) n cp] w fun e w'=>e=.returned (.tuple #[.agg (openMsg 1 (openC AV hh ii cc)),.agg #[.int .i64 0,.int .i64 0,.slice none 0 0]])∧Below w.heap.size w w':=by
 have KH:=head_dW (some ⟨g,o,none⟩) cp bs w (by omega) (by omega) h hS _ hr
 rw [hn] at KH
 have HK:=hide KH
 obtain ⟨g',o',e9,hc⟩:=h.1.2 (by omega)
 cases e9
 have c18:w.cell? ⟨g,o+18,none⟩=some (.int .u8 1):=by rw [hc 18 (by omega)]; show some (Value.int .u8 ((bs.getD 18 0:Nat):Int))=_; rw [hk1]; rfl
 have zg:=World.block_lt_of_cell? w _ c18
 simp only at zg
 have KO:Hid (∀ X,Below w.heap.size w X→Calls Tryz.prog 25 #[.slice (some ⟨g,o+19,none⟩) (n - 19) (cp - 19)] X fun e w'=>OpIs X w' e (openR (bs.drop 19))∧Below X.heap.size X w'):=fun X hX =>
  readopen_any g (o+19) (n - 19) (cp - 19) (bs.drop 19) X (by rw [List.length_drop,hn]) (by omega) (by omega) (by omega) (brd_drop (h.below hX) (by omega))
 have hcp19:¬ cp=19:=by omega
 have hni:¬ ((n:Int) < 19):=by omega
 have H29:Hid (29≤n∧n≤5000):=⟨hn29,hl⟩
 clear KH h hS hcap hr hn hk1 hc hl hn29
 simp only at HK
 rw [ho] at KO
 unfold OpIs at KO
 simp only at KO
 clear ho
 go_enter Tryz.func10,Tryz.ntmps10
 go_wp2_with (refine keptM_alloc_intro _ (run_allocM w) ?_)
 show Calls Tryz.prog 23 #[.slice (some ⟨g,o,none⟩) n cp] (dW w) _
 with_reducible refine HK.out.mono ?_
 rintro e w1 ⟨a9,c9,rfl,HO,HB⟩
 have HH:=hide (h6_of a9 0 c9 HB.out zg c18)
 go_wp2_with fail
 generalize (w1.alloc (.cells #[.int .i64 0,.int .i64 0,.slice a9 0 c9] 38))=W at *
 refine m_region _ W g o n cp 1 (opi rfl) (opi rfl) (opi rfl) (opi rfl) (opi rfl) (opi rfl) (opi rfl) (opi rfl) (opi rfl) (opi rfl) rfl (by kernel_rfl)
  (by kernel_rfl) (by kernel_rfl) (by kernel_rfl) (by kernel_rfl) (by kernel_rfl) (by kernel_rfl) (by kernel_rfl) (by kernel_rfl) (by kernel_rfl) (by kernel_rfl) (by kernel_rfl)
  rfl rfl (by have:=H29.out.1; omega) (by have:=H29.out.2; omega) (by omega) HH.out.c18 ?_
 intro a W6 hfr h6 h7 bY hb6
 rw [if_neg hcp19] at h7
 obtain ⟨x0,x1,x2,x3,x4,x5,x6,rfl⟩:=hfr.lay9m (by exact (by decide:∀ s∈[29,30,31,32,33,34,35,6,7],s < 75)) h6 h7
 have HD:Hid (D6 w W6 w1.heap.size W.heap.size (msgC 1 0 0 (.slice none 0 0)) (.slice a9 0 c9)):=HH.out.d6 bY hb6
 have hsz:=HH.out.le
 have y0:W6.cell? ⟨W.heap.size,0,none⟩=some (.int .i64 1):=range_of HD.out.bY 0 _ rfl
 have zY:W.heap.size < W6.heap.size:=HD.out.hs
 clear hfr h6 h7 bY hb6
 simp only [Act.put,List.setIfInBounds_toArray,List.set_cons_zero,List.set_cons_succ]
 go_wp2_with fail
 with_reducible refine (KO.out W6 HD.out.bel).mono ?_
 rintro e w7 ⟨hop,hb7⟩
 subst hop
 obtain ⟨W8,hst,b8,o8,z8,k8⟩:=store_open (w:=w7) (Y:=W.heap.size) (k:=1) (O:=(openC AV hh ii cc)) (OC.made AV hh ii cc) (by rw [hb7.block _ zY]; exact HD.out.bY)
 have hX8:W8.heap[w1.heap.size]?=some (.cells #[.int .i64 0,.int .i64 0,.slice a9 0 c9] 38 (0,0)):=by
  rw [o8 _ (by have:=HD.out.hY; omega),hb7.block _ (by have:=HD.out.hY; omega)]; exact HD.out.bX
 have hX:=range_of hX8
 have zX8:w1.heap.size < W8.heap.size:=(Array.getElem?_eq_some_iff.1 hX8).1
 have r0:W8.cell? ⟨w1.heap.size,0,none⟩=some (.int .i64 0):=by have:=hX 0 _ rfl; simpa using this
 have r1:W8.cell? ⟨w1.heap.size,1,none⟩=some (.int .i64 0):=by have:=hX 1 _ rfl; simpa using this
 have r2:W8.cell? ⟨w1.heap.size,2,none⟩=some (.slice a9 0 c9):=by have:=hX 2 _ rfl; simpa using this
 have ff:∀ j,W8.frozen? ⟨w1.heap.size,j,none⟩=false:=fun j=>by simp [World.frozen?,hX8]
 have f0:=ff 0
 have f1:=ff 1
 have f2:=ff 2
 have HST:=hide hst
 have zx:w1.heap.size≠W.heap.size∧w.heap.size+2≤w1.heap.size∧w1.heap.size < W.heap.size:=by have:=HD.out.hX; have:=HD.out.hY; omega
 have h9M:(W8.setCells w1.heap.size 0 [.int .i64 0,.int .i64 0,.slice none 0 0]).heap[w.heap.size]?=some (.cells zM 40 (0,0)):=by
  rw [heap_sets (by omega),o8 _ (by omega),hb7.block _ (by omega)]; exact HD.out.bM
 have h9N:(W8.setCells w1.heap.size 0 [.int .i64 0,.int .i64 0,.slice none 0 0]).heap[w.heap.size+1]?=some (.cells #[.int .i64 0,.int .i64 0,.slice none 0 0] 38 (0,0)):=by
  rw [heap_sets (by omega),o8 _ (by omega),hb7.block _ (by omega)]; exact HD.out.bN
 have h9X:(W8.setCells w1.heap.size 0 [.int .i64 0,.int .i64 0,.slice none 0 0]).heap[w1.heap.size]?=some (.cells #[.int .i64 0,.int .i64 0,.slice none 0 0] 38 (0,0)):=bx_put (C:=#[.int .i64 0,.int .i64 0,.slice none 0 0]) hX8 rfl
 have h9Y:(W8.setCells w1.heap.size 0 [.int .i64 0,.int .i64 0,.slice none 0 0]).heap[W.heap.size]?=some (.cells (openMsg 1 (openC AV hh ii cc)) 40 (0,0)):=by
  rw [heap_sets (by omega)]; exact b8
 have k9:Keeps (fun x=>x=W.heap.size∨x=w1.heap.size) w7 (W8.setCells w1.heap.size 0 [.int .i64 0,.int .i64 0,.slice none 0 0]):=(k8.mono (fun x _ e=>.inl e)).setCells _ 0 _ (.inl (.inr rfl))
 have b9:Below w.heap.size w (W8.setCells w1.heap.size 0 [.int .i64 0,.int .i64 0,.slice none 0 0]):=(HD.out.bel.trans (hb7.mono HD.out.bel.size)).trans (k9.below _ (by have:=HD.out.bel.size; have:=hb7.size; omega) (fun x e=>by omega))
 have z9:(W8.setCells w1.heap.size 0 [.int .i64 0,.int .i64 0,.slice none 0 0]).heap.size=w7.heap.size:=by
  have:∀ (vs:List Value) (o:Nat) (w:World),(w.setCells w1.heap.size o vs).heap.size=w.heap.size:=by
   intro vs
   induction vs with
   | nil=>intro o w; rfl
   | cons v r ih=>intro o w; rw [World.setCells,ih]; simp
  rw [this,z8]
 have x9:(W8.setCells w1.heap.size 0 [.int .i64 0,.int .i64 0,.slice none 0 0]).cell? ⟨w1.heap.size,0,none⟩=some (.int .i64 0):=by have:=range_of h9X 0 _ rfl; simpa using this
 have H9M:=hide h9M
 have H9N:=hide h9N
 have H9X:=hide h9X
 have H9Y:=hide h9Y
 have B9:=hide b9
 have Z9:=hide z9
 have zXx:w1.heap.size < (W8.setCells w1.heap.size 0 [.int .i64 0,.int .i64 0,.slice none 0 0]).heap.size:=(Array.getElem?_eq_some_iff.1 h9X).1
 have zYx:W.heap.size < (W8.setCells w1.heap.size 0 [.int .i64 0,.int .i64 0,.slice none 0 0]).heap.size:=(Array.getElem?_eq_some_iff.1 h9Y).1
 clear h9M h9N h9X h9Y b9 z9 hst b8 o8 z8 k8 hX8 hX k9 ff hb7
 obtain ⟨W9,hW9⟩:∃ W9,W9=W8.setCells w1.heap.size 0 [.int .i64 0,.int .i64 0,.slice none 0 0]:=⟨_,rfl⟩
 rw [← hW9] at H9M H9N H9X H9Y B9 Z9 x9 zXx zYx
 go_wp2_with (refine keptO_store_intro _ _ (.pointer (some ⟨W.heap.size,1,none⟩)) (.agg (openC AV hh ii cc)) (by rfl) (by rfl) HST.out ?_)
 show Code.wp _ _ _ _ (W8.setCells w1.heap.size 0 [.int .i64 0,.int .i64 0,.slice none 0 0])
 rw [← hW9]
 clear hW9
 refine out_region _ W9 w.heap.size (w.heap.size+1) 40 zM (openMsg 1 (openC AV hh ii cc)) #[.int .i64 0,.int .i64 0,.slice none 0 0] #[.int .i64 0,.int .i64 0,.slice none 0 0] 73 74 _ _ (opi rfl) (opi rfl) (opi rfl) (opi rfl) rfl (by kernel_rfl) (by kernel_rfl) (by kernel_rfl) (by kernel_rfl) (by kernel_rfl) (by kernel_rfl) (by kernel_rfl) (by kernel_rfl)
  (fun ty po af W' hW=>run_of_loadM (MC.openMsg 1 (OC.made AV hh ii cc)) (g:=W.heap.size) (by rfl) (range_of (by rw [hW.block _ zYx (by omega)]; exact H9Y.out))) (fun ty po af W' hW=>run_of_loadN (g:=w1.heap.size) (by rfl) (by
   rw [hW.block _ zXx (by omega)]; exact H9X.out)) rfl rfl (show 73 < 75 by decide) (show 74 < 75 by decide) (by decide) H9M.out H9N.out (by omega) (by rw [(MC.openMsg 1 (OC.made AV hh ii cc)).1,MC.zero.1]) rfl (by rw [infoM,(MC.openMsg 1 (OC.made AV hh ii cc)).1]) infoN (MC.openMsg 1 (OC.made AV hh ii cc)).2 (by simp [Value.oneCell']) ?_
 simp only [Act.put,List.setIfInBounds_toArray,List.set_cons_zero,List.set_cons_succ]
 have HRM:Hid (((({ W9 with drawn:=W9.drawn+1 } : World).setCells w.heap.size 0 (openMsg 1 (openC AV hh ii cc)).toList).setCells (w.heap.size+1) 0 (#[Value.int .i64 0,.int .i64 0,.slice none 0 0]:Array Value).toList).rangeAt w.heap.size 0 (openMsg 1 (openC AV hh ii cc)).toList):=bx_apart (bx_set (w:={ W9 with drawn:=W9.drawn+1 }) H9M.out (Nat.le_of_eq ((MC.openMsg 1 (OC.made AV hh ii cc)).1.trans MC.zero.1.symm))) (by omega)
 have HRN:Hid (((({ W9 with drawn:=W9.drawn+1 } : World).setCells w.heap.size 0 (openMsg 1 (openC AV hh ii cc)).toList).setCells (w.heap.size+1) 0 (#[Value.int .i64 0,.int .i64 0,.slice none 0 0]:Array Value).toList).rangeAt (w.heap.size+1) 0 (#[Value.int .i64 0,.int .i64 0,.slice none 0 0]:Array Value).toList) :=
  bx_set (C0:=#[.int .i64 0,.int .i64 0,.slice none 0 0]) (t:=38) (by rw [heap_sets (by omega)]; exact H9N.out) (by simp)
 have HKe:Hid (Keeps (fun x=>x=w.heap.size∨x=w.heap.size+1) W9 ((({ W9 with drawn:=W9.drawn+1 } : World).setCells w.heap.size 0 (openMsg 1 (openC AV hh ii cc)).toList).setCells (w.heap.size+1) 0 (#[Value.int .i64 0,.int .i64 0,.slice none 0 0]:Array Value).toList)) :=
  (Keeps.setCells (w:=W9) (w1:={ W9 with drawn:=W9.drawn+1 }) ⟨rfl,rfl,rfl,Nat.le_refl _,fun _ _ _=>rfl⟩ _ 0 _ (.inl (.inl rfl))).setCells _ 0 _ (.inl (.inr rfl))
 generalize ((({ W9 with drawn:=W9.drawn+1 } : World).setCells w.heap.size 0 (openMsg 1 (openC AV hh ii cc)).toList).setCells (w.heap.size+1) 0 (#[Value.int .i64 0,.int .i64 0,.slice none 0 0]:Array Value).toList)=WE at *
 go_wp2_with fail
 refine bodyPost_ret (v:=.tuple #[.agg (openMsg 1 (openC AV hh ii cc)),.agg #[.int .i64 0,.int .i64 0,.slice none 0 0]]) (res_cells2 Tryz.results10 _ WE w.heap.size (w.heap.size+1) (openMsg 1 (openC AV hh ii cc)) _ rfl rfl HRM.out HRN.out Tryz.underlying40 rfl (by rw [infoM,(MC.openMsg 1 (OC.made AV hh ii cc)).1]) Tryz.underlying38 rfl infoN) rfl ⟨rfl,B9.out.trans (HKe.out.below _ B9.out.size (fun x e=>by omega))⟩
end
theorem dec_open_any (g o n cp:Nat)(bs:List Nat)(w:World)(hn:bs.length=n)(hn29:29≤n)(hl:n≤5000)(hcap:n≤cp)(h:BRd w (some ⟨g,o,none⟩) bs)(hS:SaidM w)(hr:headM bs=(n,0,0,[]))(hk1:bs.getD 18 0=1) :
  Calls Tryz.prog 10 #[.slice (some ⟨g,o,none⟩) n cp] w fun e w'=>DoIs w w' e (openR (bs.drop 19))∧Below w.heap.size w w':=by
 unfold DoIs
 cases ho:openR (bs.drop 19) with
 | inl x =>
  obtain ⟨k,s,d⟩:=x
  have hk:k≠0:=by
   intro e
   subst e
   unfold openR at ho
   repeat' split at ho
   all_goals simp at ho
  exact dec_open_bad g o n cp bs w hn hn29 hl hcap h hS hr hk1 k s d hk ho
 | inr x =>
  obtain ⟨AV,hh,ii,cc⟩:=x
  exact dec_open_good g o n cp bs w hn hn29 hl hcap h hS hr hk1 AV hh ii cc ho
structure PM where
 k:Nat
 oa:Int
 oh:Nat
 oi:Nat
 oc:Cp
 gl:List (Nat×Nat)
 nl:List (Nat×Nat)
 at_:At
 nc:Nat
 ns:Nat
 nd:List Nat
def at0:At:=⟨0,[],0,0,0,[],[]⟩
def pm0:PM:=⟨0,0,0,0,cp0,[],[],at0,0,0,[]⟩
def pmAlive:PM:=⟨4,0,0,0,cp0,[],[],at0,0,0,[]⟩
def pmOpen (a:Int)(h i:Nat)(c:Cp):PM:=⟨1,a,h,i,c,[],[],at0,0,0,[]⟩
def pmUp (G N:List (Nat×Nat))(r:Option At):PM:=⟨2,0,0,0,cp0,G,N,r.getD at0,0,0,[]⟩
def pmNote (c s:Nat)(d:List Nat):PM:=⟨3,0,0,0,cp0,[],[],at0,c,s,d⟩
def MsgOwn (w:World)(B:Nat)(C:Array Value)(p:PM):Prop:=∃ v A u a cap,C=#[.int .i64 (p.k:Int)]++openC p.oa p.oh p.oi p.oc++updC v A u++#[.int .i64 (p.nc:Int),.int .i64 (p.ns:Int),.slice a p.nd.length cap]∧w.ownsRow B 96 2 v p.gl.length (pcells p.gl)∧w.ownsRow B 96 2 u p.nl.length (pcells p.nl)∧AtOwn w B A p.at_∧w.ownsRow B 5 1 (.slice a p.nd.length cap) p.nd.length (bcells p.nd)
theorem atOwn_zero (w:World)(B:Nat):AtOwn w B zA7 at0:=⟨none,0,none,0,none,0,rfl,OwnPath.nil _ _,own_nil _ _ _ _,OwnRaws.nil _ _⟩
theorem MsgOwn.zero (w:World)(B:Nat):MsgOwn w B zM pm0:=⟨.slice none 0 0,zA7,.slice none 0 0,none,0,rfl,own_nil _ _ _ _,own_nil _ _ _ _,atOwn_zero _ _,own_nil _ _ _ _⟩
theorem MsgOwn.alive (w:World)(B:Nat):MsgOwn w B (msgC 4 0 0 (.slice none 0 0)) pmAlive:=⟨.slice none 0 0,zA7,.slice none 0 0,none,0,rfl,own_nil _ _ _ _,own_nil _ _ _ _,atOwn_zero _ _,own_nil _ _ _ _⟩
theorem MsgOwn.note {w:World}{B:Nat}{c s:Nat}{d:List Nat}{a:Option Addr}{cap:Nat} (h:w.ownsRow B 5 1 (.slice a d.length cap) d.length (bcells d)):MsgOwn w B (msgC 3 (c:Int) (s:Int) (.slice a d.length cap)) (pmNote c s d):=⟨.slice none 0 0,zA7,.slice none 0 0,a,cap,by simp [msgC,openC,updC,zA7,cp0,pmNote],own_nil _ _ _ _,own_nil _ _ _ _,atOwn_zero _ _,h⟩
theorem MsgOwn.openm (w:World)(B:Nat)(a:Int)(h i:Nat)(c:Cp):MsgOwn w B (openMsg 1 (openC a h i c)) (pmOpen a h i c):=⟨.slice none 0 0,zA7,.slice none 0 0,none,0,by simp [openMsg,openC,updC,zA7,pmOpen],own_nil _ _ _ _,own_nil _ _ _ _,atOwn_zero _ _,own_nil _ _ _ _⟩
theorem updMsg_eq (k:Int)(U:Array Value):updMsg k U=#[.int .i64 k]++openC 0 0 0 cp0++U++#[.int .i64 0,.int .i64 0,.slice none 0 0]:=rfl
theorem MsgOwn.upd {w:World}{B:Nat}{G N:List (Nat×Nat)}{v u:Value}{A:Array Value}{r:Option At} (h:OwnX B G N v u A r w):MsgOwn w B (updMsg 2 (updC v A u)) (pmUp G N r):=by
 obtain ⟨h1,h2,h3⟩:=h
 refine ⟨v,A,u,none,0,updMsg_eq _ _,h1,h2,?_,own_nil _ _ _ _⟩
 cases r with
 | none=>simp only at h3; subst h3; exact atOwn_zero _ _
 | some b=>exact h3
def readM (bs:List Nat):PM×Nat×Nat×List Nat :=
 if (headM bs).2.1≠0 then (pm0,(headM bs).2.1,(headM bs).2.2.1,(headM bs).2.2.2)
 else if (headM bs).1=0∨(headM bs).1≠bs.length then (pm0,1,2,[])
 else if bs.getD 18 0=1 then (match openR (bs.drop 19) with
  | .inl (k,s,d)=>(pm0,k,s,d)
  | .inr (a,h,i,c)=>(pmOpen a h i c,0,0,[]))
 else if bs.getD 18 0=2 then (match upR (bs.drop 19) with
  | .inl (k,s,d)=>(pm0,k,s,d)
  | .inr (G,N,r)=>(pmUp G N r,0,0,[]))
 else if bs.getD 18 0=3 then (pmNote (bs.getD 19 0) (bs.getD 20 0) (bs.drop 21),0,0,[])
 else (pmAlive,0,0,[])
theorem readM_bad {bs:List Nat}{k s:Nat}{d:List Nat} (h:headM bs=(0,k,s,d)) (hk:k≠0):readM bs=(pm0,k,s,d):=by unfold readM; rw [h]; simp only; rw [if_pos hk]
theorem readM_size {bs:List Nat}{m:Nat} (h:headM bs=(m,0,0,[])) (hm:m=0∨m≠bs.length):readM bs=(pm0,1,2,[]):=by
 unfold readM; rw [h]; simp only; rw [if_neg (fun h=>h rfl),if_pos hm]
theorem readM_open {bs:List Nat}(h:headM bs=(bs.length,0,0,[]))(h0:bs.length≠0)(hk:bs.getD 18 0=1):readM bs=(match openR (bs.drop 19) with
  | .inl (k,s,d)=>(pm0,k,s,d)
  | .inr (a,h,i,c)=>(pmOpen a h i c,0,0,[])):=by
 unfold readM; rw [h]; simp only; rw [if_neg (fun h=>h rfl),if_neg (by omega),if_pos hk]
theorem readM_up {bs:List Nat}(h:headM bs=(bs.length,0,0,[]))(h0:bs.length≠0)(hk:bs.getD 18 0=2):readM bs=(match upR (bs.drop 19) with
  | .inl (k,s,d)=>(pm0,k,s,d)
  | .inr (G,N,r)=>(pmUp G N r,0,0,[])):=by
 unfold readM; rw [h]; simp only; rw [if_neg (fun h=>h rfl),if_neg (by omega),if_neg (by omega),if_pos hk]
theorem readM_note {bs:List Nat}(h:headM bs=(bs.length,0,0,[]))(h0:bs.length≠0)(hk:bs.getD 18 0=3):readM bs=(pmNote (bs.getD 19 0) (bs.getD 20 0) (bs.drop 21),0,0,[]):=by
 unfold readM; rw [h]; simp only; rw [if_neg (fun h=>h rfl),if_neg (by omega),if_neg (by omega),if_neg (by omega),if_pos hk]
theorem readM_alive {bs:List Nat}(h:headM bs=(bs.length,0,0,[]))(h0:bs.length≠0)(hk:bs.getD 18 0=4):readM bs=(pmAlive,0,0,[]):=by
 unfold readM; rw [h]; simp only; rw [if_neg (fun h=>h rfl),if_neg (by omega),if_neg (by omega),if_neg (by omega),if_neg (by omega)]
theorem headM_cases (bs:List Nat):(∃ k s d,headM bs=(0,k,s,d)∧k≠0)∨(bs.length < 19∧headM bs=(0,0,0,[]))∨(19≤bs.length∧headM bs=(hdSize bs,0,0,[])∧hdSize bs≤4096∧19≤hdSize bs∧(bs.getD 18 0=1∨bs.getD 18 0=2∨bs.getD 18 0=3∨bs.getD 18 0=4)∧leastOf (bs.getD 18 0)≤hdSize bs∧hdSize bs≤mostOf (bs.getD 18 0)):=by
 by_cases h:bs.length < 19
 ·exact .inr (.inl ⟨h,headM_short h⟩)
 ·by_cases h1:bs.take 16≠List.replicate 16 255
  ·exact .inl ⟨1,1,[],headM_mark h h1,by decide⟩
  ·by_cases h2:hdSize bs < 19∨4096 < hdSize bs
   ·exact .inl ⟨1,2,_,headM_size h h1 h2,by decide⟩
   ·by_cases h3:hdKind bs < 1∨4 < hdKind bs
    ·exact .inl ⟨1,3,_,headM_kind h h1 h2 h3,by decide⟩
    ·by_cases h4:hdSize bs < leastOf (hdKind bs)∨mostOf (hdKind bs) < hdSize bs
     ·exact .inl ⟨1,2,_,headM_said h h1 h2 h3 h4,by decide⟩
     ·unfold hdKind at h3 h4
      exact .inr (.inr ⟨by omega,headM_good h h1 h2 (by unfold hdKind; exact h3) (by unfold hdKind; exact h4),by omega,by omega,by omega,by omega,by omega⟩)
theorem upR_code {bs:List Nat}{k s:Nat}{d:List Nat} (h:upR bs=.inl (k,s,d)):k≠0:=by
 unfold upR at h
 repeat' split at h
 all_goals first | (simp only [Sum.inl.injEq,Prod.mk.injEq] at h; omega) | (cases h; done)
def DecM (w w':World)(e:Ending)(r:PM×Nat×Nat×List Nat):Prop:=∃ C a c,e=.returned (.tuple #[.agg C,.agg #[.int .i64 (r.2.1:Int),.int .i64 (r.2.2.1:Int),.slice a r.2.2.2.length c]])∧MsgOwn w' w.heap.size C r.1∧(r.2.2.2≠[]→w'.ownsRow w.heap.size 5 1 (.slice a r.2.2.2.length c) r.2.2.2.length (bcells r.2.2.2))
theorem decM_bad {w w':World}{e:Ending}{k s:Nat}{d:List Nat} (h:BadIs w w' e k s d):DecM w w' e (pm0,k,s,d):=by
 obtain ⟨u,rfl,a,c,rfl,ho⟩:=h
 exact ⟨zM,a,c,rfl,MsgOwn.zero _ _,fun _=>ho⟩
theorem mdecode_any (a:Option Addr)(cp n:Nat)(bs:List Nat)(w:World)(hn:bs.length=n)(hl:n≤5000)(hcap:n≤cp)(h:BRd w a bs)(hS:SaidM w)(hA:Said w) :
  Calls Tryz.prog 10 #[.slice a n cp] w fun e w'=>DecM w w' e (readM bs)∧Below w.heap.size w w':=by
 rcases headM_cases bs with ⟨k,s,d,hh,hk⟩ | ⟨h19,hh⟩ | ⟨h19,hh,hm,hm2,hk,hl1,hl2⟩
 ·rw [readM_bad hh hk]
  exact (dec_bad a cp n bs w hn (by omega) (by omega) h hS k s d hh hk).mono fun e w' h=>⟨decM_bad h.1,h.2⟩
 ·rw [readM_size hh (.inl rfl)]
  exact (dec_size a cp n bs w hn (by omega) (by omega) h hS 0 hh (by omega) (.inl (by omega))).mono fun e w' h=>⟨decM_bad h.1,h.2⟩
 ·by_cases hz:hdSize bs=bs.length
  ·obtain ⟨g,o,rfl,_⟩:=h.1.2 (by omega)
   rw [hz] at hh
   have hh':headM bs=(n,0,0,[]):=by rw [hh,hn]
   rcases hk with hk | hk | hk | hk
   ·rw [readM_open hh (by omega) hk]
    rw [hk] at hl1
    have hl3:29≤hdSize bs:=hl1
    cases ho:openR (bs.drop 19) with
    | inl x =>
     obtain ⟨k,s,d⟩:=x
     have:=dec_open_any g o n cp bs w hn (by omega) hl hcap h hS hh' hk
     rw [ho] at this
     exact this.mono fun e w' h=>⟨decM_bad h.1,h.2⟩
    | inr x =>
     obtain ⟨A,hh,ii,cc⟩:=x
     have:=dec_open_any g o n cp bs w hn (by omega) hl hcap h hS hh' hk
     rw [ho] at this
     refine this.mono fun e w' h=>⟨?_,h.2⟩
     have he:=h.1
     simp only [DoIs] at he
     exact ⟨_,none,0,he,MsgOwn.openm _ _ _ _ _ _,fun x=>absurd rfl x⟩
   ·rw [readM_up hh (by omega) hk]
    rw [hk] at hl1
    have hl3:23≤hdSize bs:=hl1
    cases ho:upR (bs.drop 19) with
    | inl x =>
     obtain ⟨k,s,d⟩:=x
     have hk0:k≠0:=upR_code ho
     exact (dec_up_bad g o n cp bs w hn (by omega) hl hcap h hS hA hh' hk k s d hk0 ho).mono fun e w' h=>⟨decM_bad h.1,h.2⟩
    | inr x =>
     obtain ⟨G,N,r⟩:=x
     refine (dec_up_good g o n cp bs w hn (by omega) hl hcap h hS hA hh' hk G N r ho).mono ?_
     rintro e w' ⟨⟨v,u,A,rfl,hx⟩,hb⟩
     exact ⟨⟨_,none,0,rfl,MsgOwn.upd hx,fun x=>absurd rfl x⟩,hb⟩
   ·rw [readM_note hh (by omega) hk]
    rw [hk] at hl1
    have hl3:21≤hdSize bs:=hl1
    refine (dec_note g o n cp bs w hn (by omega) hl hcap h hS hh' hk).mono ?_
    rintro e w' ⟨⟨a8,c8,a9,c9,rfl,ho⟩,hb⟩
    have hd:(bs.drop 21).length=n - 19 - 2:=by rw [List.length_drop]; omega
    rw [← hd] at ho ⊢
    exact ⟨⟨_,a9,c9,rfl,MsgOwn.note ho,fun x=>absurd rfl x⟩,hb⟩
   ·rw [readM_alive hh (by omega) hk]
    rw [hk] at hl2
    have hl3:hdSize bs≤19:=hl2
    have hn19:n=19:=by omega
    subst hn19
    refine (dec_alive g o cp bs w hn hcap h hS hh' hk).mono ?_
    rintro e w' ⟨a9,c9,rfl,hb⟩
    exact ⟨⟨_,a9,c9,rfl,MsgOwn.alive _ _,fun x=>absurd rfl x⟩,hb⟩
  ·rw [readM_size hh (.inr hz)]
   exact (dec_size a cp n bs w hn (by omega) (by omega) h hS _ hh (by omega) (.inr (by omega))).mono fun e w' h=>⟨decM_bad h.1,h.2⟩
theorem eqA_refl (a:At):eqA a a=true:=by unfold eqA eqHead eqP; simp
theorem dec_rd {w:World}{B:Nat}{p1 p5 p6:Option Addr}{k1 k5 k6:Nat}{a:At} (hn:a.next < 4294967296) (hl:sizeA a≤100000) (hb:∀ r∈a.raws,∀ x∈r.2.2,x < 256) (h1:OwnPath w B (.slice p1 a.path.length k1) a.path) (h5:w.ownsRow B 24 1 (.slice p5 a.comms.length k5) a.comms.length (ucells a.comms)) (h6:OwnRaws w B (.slice p6 a.raws.length k6) a.raws):AtRd w p1 p5 p6 a:=by
 unfold sizeA at hl
 obtain ⟨x1,y1,e1,r1⟩:=h1.rd (by omega) (fun s hs=>by have:=sumP_mem a.path s hs; omega)
 obtain ⟨x5,y5,e5,r5⟩:=own_crd h5
 obtain ⟨x6,y6,e6,r6⟩:=h6.rd (fun r hr=>⟨by have:=sumR_mem a.raws r hr; omega,hb r hr⟩)
 simp only [Value.slice.injEq,true_and] at e1 e5 e6
 obtain ⟨rfl,rfl⟩:=e1
 obtain ⟨rfl,rfl⟩:=e5
 obtain ⟨rfl,rfl⟩:=e6
 exact ⟨r1,r5,r6,hn⟩
def bytesAt (f:Nat→Nat)(i n:Nat):List Nat:=(List.range n).map fun j=>f (i+j)
theorem bytesAt_length (f:Nat→Nat)(i n:Nat):(bytesAt f i n).length=n:=by simp [bytesAt]
theorem bytesAt_app (f:Nat→Nat)(i m n:Nat):bytesAt f i (m+n)=bytesAt f i m++bytesAt f (i+m) n:=by
 simp [bytesAt,List.range_add,Nat.add_assoc]
theorem b4_num (g:Nat→Nat)(hg:∀ q,q < 4→g q < 256):b4 ((num g:Nat):Int)=bytesAt g 0 4:=by
 have h0:=hg 0 (by omega)
 have h1:=hg 1 (by omega)
 have h2:=hg 2 (by omega)
 have h3:=hg 3 (by omega)
 unfold b4 bytesAt
 rw [Int.toNat_natCast]
 have e:List.range 4=[0,1,2,3]:=rfl
 rw [e]
 simp only [List.map_cons,List.map_nil,Nat.zero_add,byteAt,num]
 congr 1
 ·omega
 congr 1
 ·omega
 congr 1
 ·omega
 congr 1
 omega
theorem nums_at (f:Nat→Nat)(j:Nat):∀ n,(∀ i,i < 4 * n→f (j+i) < 256)→nums (numsAt f j n)=bytesAt f j (4 * n)
 | 0,_=>rfl
 | n+1,h=>by
  rw [numsAt_succ,nums_snoc,nums_at f j n (fun i hi=>h i (by omega)),b4_num _ (fun q hq=>by have:=h (4 * n+q) (by omega); rwa [← Nat.add_assoc] at this),show 4 * (n+1)=4 * n+4 from by omega,bytesAt_app]
  simp [bytesAt]
theorem encSeg_at (f:Nat→Nat)(len i:Nat)(hf:∀ j,j < len→f j < 256)(hk:segOk f len i=true):encSeg (segAt f i)=bytesAt f i (2+4 * f (i+1)):=by
 obtain ⟨h1,h2,h3⟩:i+2≤len∧(f i=1∨f i=2)∧i+2+4 * f (i+1)≤len:=of_decide_eq_true hk
 unfold encSeg segAt
 simp only
 rw [nums_at f (i+2) _ (fun j hj=>hf _ (by omega)),numsAt_length,bytesAt_app]
 congr 1
 have e:List.range 2=[0,1]:=rfl
 unfold bytesAt
 rw [e]
 simp only [List.map_cons,List.map_nil,Nat.add_zero]
 congr 1
 unfold kindOf
 rcases h2 with h2 | h2 <;> simp [h2]
theorem run_enc (f:Nat→Nat)(len:Nat)(hf:∀ j,j < len→f j < 256):∀ (k i:Nat) (acc ss:List (Bool×List Int)),len - i≤k→i≤len→segsRun f len i acc=some ss→goodP ss=true∧encSegs ss=encSegs acc++bytesAt f i (len - i)
 | k,i,acc,ss,hk,hi,h=>by
  by_cases hlt:i < len
  ·cases ho:segOk f len i with
   | false=>rw [segsRun_no hlt ho] at h; cases h
   | true =>
    rw [segsRun_go hlt ho] at h
    obtain ⟨h1,h2,h3⟩:i+2≤len∧(f i=1∨f i=2)∧i+2+4 * f (i+1)≤len:=of_decide_eq_true ho
    match k,hk with
    | 0,hk=>omega
    | k+1,hk =>
     obtain ⟨g1,g2⟩:=run_enc f len hf k _ _ ss (by omega) h3 h
     refine ⟨g1,?_⟩
     rw [g2,encSegs_snoc,encSeg_at f len i hf ho,List.append_assoc,show len - i=(2+4 * f (i+1))+(len - (i+2+4 * f (i+1))) from by omega,bytesAt_app f i (2+4 * f (i+1)),show i+(2+4 * f (i+1))=i+2+4 * f (i+1) from by omega]
  ·rw [segsRun_end hlt] at h
   unfold fin at h
   split at h
   ·next hg =>
    injection h with h
    subst h
    refine ⟨hg,?_⟩
    rw [show len - i=0 from by omega]
    simp [bytesAt]
   ·cases h
theorem read_enc {f:Nat→Nat}{len:Nat} (hf:∀ j,j < len→f j < 256) {ss:List (Bool×List Int)} (h:segsRun f len 0 []=some ss):goodP ss=true∧encPath ss=bytesAt f 0 len:=by
 obtain ⟨h1,h2⟩:=run_enc f len hf len 0 [] ss (by omega) (Nat.zero_le _) h
 refine ⟨h1,?_⟩
 unfold encPath
 rw [h1,if_pos rfl,h2]
 rfl
structure Mid (N:Nat) (a:At) (seen rest:List Nat):Prop where
 origin:0≤a.origin∧a.origin≤2
 path:2∈seen→goodP a.path=true
 plen:a.path.length+sumP a.path≤N
 hop:3∈seen→hopB a.next=true
 next:a.next < 4294967296
 med : -1≤a.med∧a.med≤4294967295
 pref : -1≤a.pref∧a.pref≤4294967295
 comms:a.comms.length≤32
 none:8 ∉ seen→a.comms=[]
 raws:∀ r∈a.raws,rawK r=true∧(∃ t:Nat,t∈seen∧r.2.1=(t:Int))∧∀ x∈r.2.2,x < 256
 up:a.raws.Pairwise fun x y=>x.2.1 < y.2.1
 size:sumR a.raws+3 * a.raws.length+rest.length≤N
theorem sumR_ins (r:Int×Int×List Nat):∀ l:List (Int×Int×List Nat),sumR (insR r l)=sumR l+r.2.2.length
 | []=>by simp [insR,sumR]
 | x :: l=>by
  rw [insR]
  split
  ·simp only [sumR]; omega
  ·simp only [sumR,sumR_ins r l]; omega
theorem up_good {rs:List (Int×Int×List Nat)}(h:rs.Pairwise fun x y=>x.2.1 < y.2.1)(hk:∀ r∈rs,rawK r=true):∀ n,n≤rs.length→rawsUp rs n=true
 | 0,_=>rfl
 | n+1,hn=>by
  have e:∀ i (hi:i < rs.length),rs.getD i (0,0,[])=rs[i]:=fun i hi=>by rw [List.getD_eq_getElem?_getD,List.getElem?_eq_getElem hi]; rfl
  have ih:=up_good h hk n (by omega)
  have h2:rawK (rs.getD n (0,0,[]))=true:=by rw [e n (by omega)]; exact hk _ (List.getElem_mem _)
  rw [rawsUp,ih,h2,Bool.true_and,Bool.true_and]
  by_cases e0:n=0
  ·rw [decide_eq_true e0]; rfl
  ·have h3:typAt rs (n - 1) < typAt rs n:=by
    unfold typAt
    rw [e n (by omega),e (n - 1) (by omega)]
    exact List.pairwise_iff_getElem.1 h (n - 1) n (by omega) (by omega) (by omega)
   rw [decide_eq_true h3,Bool.or_true]
section
variable {N:Nat}{a a':At}{seen rest rest2:List Nat}
theorem Mid.more (h:Mid N a seen rest)(ty:Nat)(h2:ty≠2)(h3:ty≠3)(hs:rest2.length≤rest.length):Mid N a (ty :: seen) rest2:=by
 have:=h.size
 exact ⟨h.origin,fun e=>h.path (by simpa [Ne.symm h2] using e),h.plen,fun e=>h.hop (by simpa [Ne.symm h3] using e),h.next,h.med,h.pref,h.comms,fun e=>h.none (fun e2=>e (List.mem_cons_of_mem _ e2)),fun r hr=>⟨(h.raws r hr).1,by obtain ⟨t,h1,h2⟩:=(h.raws r hr).2.1; exact ⟨t,List.mem_cons_of_mem _ h1,h2⟩,(h.raws r hr).2.2⟩,h.up,by omega⟩
theorem Mid.ins (h:Mid N a seen rest)(ty:Nat)(f:Int)(d:List Nat)(h2:ty≠2)(h3:ty≠3)(hty:ty ∉ seen)(hk:rawK (f,(ty:Int),d)=true)(hd:∀ x∈d,x < 256)(hs:3+d.length+rest2.length≤rest.length):Mid N { a with raws:=insR (f,(ty:Int),d) a.raws } (ty :: seen) rest2:=by
 have hz:=h.size
 have m:=h.more (rest2:=rest2) ty h2 h3 (by omega)
 refine ⟨m.origin,m.path,m.plen,m.hop,m.next,m.med,m.pref,m.comms,m.none,fun r hr=>?_,insR_up _ _ h.up (fun x hx e=>?_),?_⟩
 ·rcases List.mem_append.1 ((insR_perm _ _).mem_iff.1 hr) with h1 | h1
  ·exact m.raws r h1
  ·obtain rfl:=List.mem_singleton.1 h1
   exact ⟨hk,⟨ty,List.mem_cons_self,rfl⟩,hd⟩
 ·obtain ⟨t,h4,h5⟩:=(h.raws x hx).2.1
  rw [h5] at e
  have e9:t=ty:=by have e8:(t:Int)=(ty:Int):=e; omega
  exact hty (e9 ▸ h4)
 ·show sumR (insR _ _)+3 * (insR _ _).length+_≤_
  rw [sumR_ins,insR_len]
  show sumR a.raws+d.length+_+_≤_
  omega
theorem Mid.step (h:Mid N a seen rest){fl ty:Nat}{d all:List Nat} (hty:ty ∉ seen) (ht:ty < 256) (hd:∀ x∈d,x < 256) (hs:3+d.length+rest2.length≤rest.length) (he:applyA a fl ty d all=.inr a'):Mid N a' (ty :: seen) rest2:=by
 have hz:=h.size
 have hle:rest2.length≤rest.length:=by omega
 have pass:ty≠2→ty≠3→(Sum.inr a:Res)=.inr a'→Mid N a' (ty :: seen) rest2:=fun h2 h3 e=>by
  cases e
  exact h.more ty h2 h3 hle
 have bad:∀ n,(Sum.inl n:Res)=.inr a'→Mid N a' (ty :: seen) rest2:=fun n e=>by cases e
 unfold applyA at he
 split at he
 ·rename_i hk
  unfold knownA at he
  split at he
  ·exact bad _ he
  split at he
  ·exact bad _ he
  rename_i hsb
  have hsb2:¬ (ty=1∧d.length≠1∨(ty=3∨ty=4∨ty=5)∧d.length≠4∨ty=6∧d.length≠0∨ty=7∧d.length≠8∨ty=8∧(d.length=0∨d.length % 4≠0)):=by
   intro e
   exact hsb (by unfold sizeBad; exact decide_eq_true e)
  split at he
  ·rename_i t1
   split at he
   ·exact bad _ he
   ·cases he
    have m:=h.more (rest2:=rest2) ty (by omega) (by omega) hle
    exact ⟨⟨by show (0:Int)≤((d.getD 0 0:Nat):Int); omega,by show ((d.getD 0 0:Nat):Int)≤2; omega⟩,m.path,m.plen,m.hop,m.next,m.med,m.pref,m.comms,m.none,m.raws,m.up,m.size⟩
  split at he
  ·rename_i t2
   split at he
   ·exact bad _ he
   ·rename_i p hp
    cases he
    obtain ⟨g1,g2⟩:=read_enc (f:=fun q=>d.getD q 0) (fun j _=>byte_lt hd j) hp
    have g3:(encPath p).length=d.length:=by rw [g2,bytesAt_length]
    unfold encPath at g3
    rw [if_pos g1,encSegs_length] at g3
    have m:=h.more (rest2:=rest2) 0 (by omega) (by omega) hle
    exact ⟨h.origin,fun _=>g1,by show p.length+sumP p≤N; omega,fun e=>h.hop (by rcases List.mem_cons.1 e with e | e; omega; exact e),h.next,h.med,h.pref,h.comms,fun e=>h.none (fun e2=>e (List.mem_cons_of_mem _ e2)),fun r hr=>⟨(h.raws r hr).1,by obtain ⟨t,h1,h2⟩:=(h.raws r hr).2.1; exact ⟨t,List.mem_cons_of_mem _ h1,h2⟩,(h.raws r hr).2.2⟩,h.up,m.size⟩
  split at he
  ·rename_i t3
   split at he
   ·rename_i hop
    cases he
    have m:=h.more (rest2:=rest2) 0 (by omega) (by omega) hle
    exact ⟨h.origin,fun e=>h.path (by rcases List.mem_cons.1 e with e | e; omega; exact e),h.plen,fun _=>hop,numL_lt d hd,h.med,h.pref,h.comms,fun e=>h.none (fun e2=>e (List.mem_cons_of_mem _ e2)),fun r hr=>⟨(h.raws r hr).1,by obtain ⟨t,h1,h2⟩:=(h.raws r hr).2.1; exact ⟨t,List.mem_cons_of_mem _ h1,h2⟩,(h.raws r hr).2.2⟩,h.up,m.size⟩
   ·exact bad _ he
  split at he
  ·cases he
   have hn:=numL_lt d hd
   have m:=h.more (rest2:=rest2) ty (by omega) (by omega) hle
   exact ⟨m.origin,m.path,m.plen,m.hop,m.next,⟨by show (-1:Int)≤((numL d:Nat):Int); omega,by show ((numL d:Nat):Int)≤4294967295; omega⟩,m.pref,m.comms,m.none,m.raws,m.up,m.size⟩
  split at he
  ·cases he
   have hn:=numL_lt d hd
   have m:=h.more (rest2:=rest2) ty (by omega) (by omega) hle
   exact ⟨m.origin,m.path,m.plen,m.hop,m.next,m.med,⟨by show (-1:Int)≤((numL d:Nat):Int); omega,by show ((numL d:Nat):Int)≤4294967295; omega⟩,m.comms,m.none,m.raws,m.up,m.size⟩
  split at he
  ·rename_i t8
   split at he
   ·exact bad _ he
   ·cases he
    have m:=h.more (rest2:=rest2) ty (by omega) (by omega) hle
    have c0:=h.none (t8 ▸ hty)
    exact ⟨m.origin,m.path,m.plen,m.hop,m.next,m.med,m.pref,by show (a.comms++numsL d).length≤32; rw [c0,List.nil_append,numsL_length]; omega,fun e=>absurd (by rw [t8]; exact List.mem_cons_self) e,m.raws,m.up,m.size⟩
  ·cases he
   rcases (by omega:ty=6∨ty=7) with rfl | rfl
   ·exact h.ins 6 _ d (by omega) (by omega) hty (decide_eq_true (.inl ⟨rfl,rfl,by show d.length=0; omega⟩)) hd hs
   ·exact h.ins 7 _ d (by omega) (by omega) hty (decide_eq_true (.inr (.inl ⟨rfl,rfl,by show d.length=8; omega⟩))) hd hs
 split at he
 ·exact bad _ he
 split at he
 ·exact pass (by omega) (by omega) he
 split at he
 ·exact bad _ he
 split at he
 ·cases he
  exact h.ins ty _ d (by omega) (by omega) hty (decide_eq_true (.inr (.inr ⟨by show (8:Int) < (ty:Int); omega,by show (ty:Int)≤255; omega,rfl,by show d.length≤255; omega⟩))) hd hs
 ·exact pass (by omega) (by omega) he
theorem Mid.fin (h:Mid N a seen rest)(he:finA a seen=.inr a'):goodA a'=true∧a'.next < 4294967296∧sizeA a'≤2 * N+32∧∀ r∈a'.raws,∀ x∈r.2.2,x < 256:=by
 unfold finA at he
 split at he
 ·cases he
 split at he
 ·cases he
 split at he
 ·cases he
 rename_i h1 h2 h3
 cases he
 have hz:=h.size
 have hp:=h.plen
 have hc:=h.comms
 refine ⟨?_,h.next,by unfold sizeA; omega,fun r hr=>(h.raws r hr).2.2⟩
 unfold goodA headA
 rw [decide_eq_true h.origin,h.path (Classical.not_not.1 h2),h.hop (Classical.not_not.1 h3),decide_eq_true h.med,decide_eq_true h.pref,decide_eq_true h.comms,up_good h.up (fun r hr=>(h.raws r hr).1) _ (Nat.le_refl _)]
 rfl
end
theorem run_good {N:Nat} : ∀ (k:Nat) (rest:List Nat) (a a':At) (seen:List Nat),rest.length≤k→(∀ x∈rest,x < 256)→Mid N a seen rest→runA rest a seen=.inr a'→goodA a'=true∧a'.next < 4294967296∧sizeA a'≤2 * N+32∧∀ r∈a'.raws,∀ x∈r.2.2,x < 256
 | 0,rest,a,a',seen,hk,_,h,he=>by
  obtain rfl:rest=[]:=List.eq_nil_of_length_eq_zero (by omega)
  exact h.fin ((runA_end a seen).symm.trans he)
 | k+1,rest,a,a',seen,hk,hb,h,he=>by
  by_cases h0:rest=[]
  ·subst h0
   exact h.fin ((runA_end a seen).symm.trans he)
  ·cases hf:fitsL rest seen with
   | false=>rw [runA_no h0 hf] at he; cases he
   | true =>
    rw [runA_go h0 hf] at he
    have hf2:headL (rest.getD 0 0)≤rest.length∧headL (rest.getD 0 0)+sizeL rest≤rest.length∧rest.getD 1 0 ∉ seen:=of_decide_eq_true ((fitsL_eq rest seen).symm.trans hf)
    obtain ⟨f1,f2,f3⟩:=hf2
    have hh:3≤headL (rest.getD 0 0):=by unfold headL; split <;> omega
    generalize hap:applyA a (rest.getD 0 0) (rest.getD 1 0) ((rest.drop (headL (rest.getD 0 0))).take (sizeL rest)) (rest.take (headL (rest.getD 0 0)+sizeL rest))=r at he
    cases r with
    | inl n=>rw [thenA_no] at he; cases he
    | inr a2 =>
     rw [thenA_go] at he
     have hl:(rest.drop (headL (rest.getD 0 0)+sizeL rest)).length=rest.length - (headL (rest.getD 0 0)+sizeL rest):=List.length_drop ..
     refine run_good k _ a2 a' _ (by rw [hl]; omega) (fun x hx=>hb x (List.mem_of_mem_drop hx)) (h.step f3 (byte_lt hb 1) (fun x hx=>hb x (List.mem_of_mem_drop (List.mem_of_mem_take hx))) ?_ hap) he
     rw [hl,List.length_take,List.length_drop]
     omega
theorem read_good {bs:List Nat}{a:At} (hb:∀ x∈bs,x < 256) (h:readA bs=.inr a):goodA a=true∧a.next < 4294967296∧sizeA a≤2 * bs.length+32∧∀ r∈a.raws,∀ x∈r.2.2,x < 256 :=
 run_good bs.length bs _ a [] (Nat.le_refl _) hb ⟨by decide,fun e=>by simp at e,by simp [sumP],fun e=>by simp at e,by decide,by decide,by decide,by simp,fun _=>rfl,fun r hr=>by simp at hr,List.Pairwise.nil,by simp [sumR]⟩ h
theorem applyA_note {a:At}{fl ty:Nat}{d all:List Nat}{n:Nat×Nat×List Nat} (h:applyA a fl ty d all=.inl n):n.1=3∧(n.2.2=all∨n.2.2=[]):=by
 have key:∀ (s:Nat) (l:List Nat),(Sum.inl (3,s,l):Res)=.inl n→(l=all∨l=[])→n.1=3∧(n.2.2=all∨n.2.2=[]):=fun s l e hl=>by
  cases e
  exact ⟨rfl,hl⟩
 unfold applyA at h
 split at h
 ·exact knownA_three h
 split at h
 ·exact key _ _ h (.inl rfl)
 split at h
 ·cases h
 split at h
 ·exact key _ _ h (.inl rfl)
 split at h
 ·cases h
 ·cases h
theorem fin_note {a:At}{seen:List Nat}{n:Nat×Nat×List Nat} (h:finA a seen=.inl n):n.1=3∧(∀ x∈n.2.2,x < 256)∧n.2.2.length=1:=by
 unfold finA at h
 split at h
 ·cases h; exact ⟨rfl,by simp,rfl⟩
 split at h
 ·cases h; exact ⟨rfl,by simp,rfl⟩
 split at h
 ·cases h; exact ⟨rfl,by simp,rfl⟩
 ·cases h
theorem run_note:∀ (k:Nat)(rest:List Nat)(a:At)(seen:List Nat)(n:Nat×Nat×List Nat),rest.length≤k→(∀ x∈rest,x < 256)→runA rest a seen=.inl n→n.1=3∧(∀ x∈n.2.2,x < 256)∧n.2.2.length≤rest.length+1
 | 0,rest,a,seen,n,hk,_,he=>by
  obtain rfl:rest=[]:=List.eq_nil_of_length_eq_zero (by omega)
  obtain ⟨h1,h2,h3⟩:=fin_note ((runA_end a seen).symm.trans he)
  exact ⟨h1,h2,by omega⟩
 | k+1,rest,a,seen,n,hk,hb,he=>by
  by_cases h0:rest=[]
  ·subst h0
   obtain ⟨h1,h2,h3⟩:=fin_note ((runA_end a seen).symm.trans he)
   exact ⟨h1,h2,by omega⟩
  ·cases hf:fitsL rest seen with
   | false =>
    rw [runA_no h0 hf] at he
    cases he
    exact ⟨rfl,by simp,by simp⟩
   | true =>
    rw [runA_go h0 hf] at he
    have hh:3≤headL (rest.getD 0 0):=by unfold headL; split <;> omega
    generalize hap:applyA a (rest.getD 0 0) (rest.getD 1 0) ((rest.drop (headL (rest.getD 0 0))).take (sizeL rest)) (rest.take (headL (rest.getD 0 0)+sizeL rest))=r at he
    cases r with
    | inl m =>
     rw [thenA_no] at he
     cases he
     obtain ⟨h1,h2⟩:=applyA_note hap
     refine ⟨h1,?_,?_⟩
     ·rcases h2 with h2 | h2 <;> rw [h2]
      ·exact fun x hx=>hb x (List.mem_of_mem_take hx)
      ·simp
     ·rcases h2 with h2 | h2 <;> rw [h2]
      ·rw [List.length_take]; omega
      ·simp
    | inr a2 =>
     rw [thenA_go] at he
     have hl:(rest.drop (headL (rest.getD 0 0)+sizeL rest)).length=rest.length - (headL (rest.getD 0 0)+sizeL rest):=List.length_drop ..
     have hp:0 < rest.length:=List.length_pos_iff.2 h0
     obtain ⟨h1,h2,h3⟩:=run_note k _ a2 _ n (by rw [hl]; omega) (fun x hx=>hb x (List.mem_of_mem_drop hx)) he
     exact ⟨h1,h2,by omega⟩
theorem read_note {bs:List Nat}{n:Nat×Nat×List Nat} (hb:∀ x∈bs,x < 256) (h:readA bs=.inl n):n.1=3∧(∀ x∈n.2.2,x < 256)∧n.2.2.length≤bs.length+1:=run_note bs.length bs _ [] n (Nat.le_refl _) hb h
structure PMok (p:PM):Prop where
 nd:∀ x∈p.nd,x < 256
 ndl:p.nd.length≤5000
 gll:p.gl.length≤10000
 nll:p.nl.length≤10000
 nx:p.at_.next < 4294967296
 sz:sizeA p.at_≤100000
 rw:∀ r∈p.at_.raws,∀ x∈r.2.2,x < 256
theorem own_read' {w:World}{B n:Nat}{a:Option Addr}{c:Nat}{d:List Nat} (h:w.ownsRow B 5 1 (.slice a n c) n (bcells d)) (hn:d.length=n) (hl:n≤50000) (hb:∀ x∈d,x < 256):BRd w a d:=by
 subst hn
 obtain ⟨a',c',e,_,hr⟩:=own_brd h (by omega) hb
 simp only [Value.slice.injEq] at e
 rw [e.1]
 exact hr
section
attribute [local go_sem ↓] keptM_box
set_option maxHeartbeats 4000000 in
theorem samemsg_walk (w:World)(k oa:Int)(oh oi:Nat)(oc:Cp)(nc ns:Int)(b:At)(pl ql dl pn cn rn:Nat)
  (v1 v2 u1 u2:Option Addr) (vc1 vc2 uc1 uc2:Nat) (p1 p2 q1 q2 r1 r2:Option Addr) (pk1 pk2 qk1 qk2 rk1 rk2:Nat) (a1 a2:Option Addr) (c1 c2:Nat)
  (KN:Hid (∀ X,Below w.heap.size w X→Calls Tryz.prog 12 #[.agg #[.int .i64 nc,.int .i64 ns,.slice a1 dl c1],.agg #[.int .i64 nc,.int .i64 ns,.slice a2 dl c2]] X fun e w'=>e=.returned (.bool true)∧Hid (Below X.heap.size X w')))
  (KG:Hid (∀ X,Below w.heap.size w X→Calls Tryz.prog 32 #[.slice v1 pl vc1,.slice v2 pl vc2] X fun e w'=>e=.returned (.bool true)∧Hid (Below X.heap.size X w')))
  (KL:Hid (∀ X,Below w.heap.size w X→Calls Tryz.prog 32 #[.slice u1 ql uc1,.slice u2 ql uc2] X fun e w'=>e=.returned (.bool true)∧Hid (Below X.heap.size X w')))
  (KA:Hid (∀ X,Below w.heap.size w X→Calls Tryz.prog 33 #[.agg #[.int .i64 b.origin,.slice p1 pn pk1,.int .u32 (b.next:Int),.int .i64 b.med,.int .i64 b.pref,.slice q1 cn qk1,.slice r1 rn rk1],.agg #[.int .i64 b.origin,.slice p2 pn pk2,.int .u32 (b.next:Int),.int .i64 b.med,.int .i64 b.pref,.slice q2 cn qk2,.slice r2 rn rk2]] X fun e w'=>e=.returned (.bool true)∧Hid (Below X.heap.size X w')))
  (C1 C2:Array Value)
  (h1:C1=#[.int .i64 k]++openC oa oh oi oc++updC (.slice v1 pl vc1) #[.int .i64 b.origin,.slice p1 pn pk1,.int .u32 (b.next:Int),.int .i64 b.med,.int .i64 b.pref,.slice q1 cn qk1,.slice r1 rn rk1] (.slice u1 ql uc1)++#[.int .i64 nc,.int .i64 ns,.slice a1 dl c1])
  (h2:C2=#[.int .i64 k]++openC oa oh oi oc++updC (.slice v2 pl vc2) #[.int .i64 b.origin,.slice p2 pn pk2,.int .u32 (b.next:Int),.int .i64 b.med,.int .i64 b.pref,.slice q2 cn qk2,.slice r2 rn rk2] (.slice u2 ql uc2)++#[.int .i64 nc,.int .i64 ns,.slice a2 dl c2]) :
  Calls Tryz.prog 13 #[.agg C1,.agg C2] w fun e w'=>e=.returned (.bool true)∧Below w.heap.size w w':=by
 obtain ⟨og,pth,nx,md,pf,cms,rws⟩:=b
 obtain ⟨four,as4,gr,rs,tm,fam,fwd,ll,lt⟩:=oc
 simp only [openC,updC] at h1 h2 KA
 have HB1:Hid ((w.alloc (.cells C1 40)).heap[w.heap.size]?=some (.cells C1 40 (0,0))):=heap_alloc_new w _
 have HB2:Hid (((w.alloc (.cells C1 40)).alloc (.cells C2 40)).heap[w.heap.size+1]?=some (.cells C2 40 (0,0))):=by
  have h9:=heap_alloc_new (w.alloc (.cells C1 40)) (.cells C2 40)
  rw [show (w.alloc (.cells C1 40)).heap.size=w.heap.size+1 by simp] at h9
  exact h9
 have HB1':Hid (((w.alloc (.cells C1 40)).alloc (.cells C2 40)).heap[w.heap.size]?=some (.cells C1 40 (0,0))):=by show _=_; rw [heap_old (by simp)]; exact HB1.out
 have HBel:Hid (Below w.heap.size w ((w.alloc (.cells C1 40)).alloc (.cells C2 40))):=((Below.refl _ _).alloc (Nat.le_refl _) _).alloc (by simp) _
 have HSZ:Hid (((w.alloc (.cells C1 40)).alloc (.cells C2 40)).heap.size=w.heap.size+2):=by show _=_; simp
 have e1:C1.toList=[.int .i64 k,.int .i64 oa,.int .i64 (oh:Int),.int .u32 (oi:Int),.bool four,.int .i64 as4,.bool gr,.bool rs,.int .i64 tm,.bool fam,.bool fwd,.bool ll,.int .i64 lt,.slice v1 pl vc1,.int .i64 og,.slice p1 pn pk1,.int .u32 (nx:Int),.int .i64 md,.int .i64 pf,.slice q1 cn qk1,.slice r1 rn rk1,.slice u1 ql uc1,.int .i64 nc,.int .i64 ns,.slice a1 dl c1]:=by rw [h1]; simp
 have e2:C2.toList=[.int .i64 k,.int .i64 oa,.int .i64 (oh:Int),.int .u32 (oi:Int),.bool four,.int .i64 as4,.bool gr,.bool rs,.int .i64 tm,.bool fam,.bool fwd,.bool ll,.int .i64 lt,.slice v2 pl vc2,.int .i64 og,.slice p2 pn pk2,.int .u32 (nx:Int),.int .i64 md,.int .i64 pf,.slice q2 cn qk2,.slice r2 rn rk2,.slice u2 ql uc2,.int .i64 nc,.int .i64 ns,.slice a2 dl c2]:=by rw [h2]; simp
 have F1:Hid (∀ X,Below (w.heap.size+2) ((w.alloc (.cells C1 40)).alloc (.cells C2 40)) X→∀ j v,C1.toList[j]?=some v→X.cell? ⟨w.heap.size,j,none⟩=some v):=fun X hX j v hv=>by
  rw [hX.cell (p:=⟨w.heap.size,j,none⟩) (by show w.heap.size < _; omega)]
  have:=range_of HB1'.out j v hv
  rwa [Nat.zero_add] at this
 have F2:Hid (∀ X,Below (w.heap.size+2) ((w.alloc (.cells C1 40)).alloc (.cells C2 40)) X→∀ j v,C2.toList[j]?=some v→X.cell? ⟨w.heap.size+1,j,none⟩=some v):=fun X hX j v hv=>by
  rw [hX.cell (p:=⟨w.heap.size+1,j,none⟩) (by show w.heap.size+1 < _; omega)]
  have:=range_of HB2.out j v hv
  rwa [Nat.zero_add] at this
 rw [e1] at F1
 rw [e2] at F2
 obtain ⟨W1,hW1⟩:∃ W1,W1=w.alloc (.cells C1 40):=⟨_,rfl⟩
 obtain ⟨X0,hX0⟩:∃ X0,X0=W1.alloc (.cells C2 40):=⟨_,rfl⟩
 have HR1:Hid ((Instr.box 40 (.agg C1)).run Tryz.prog w=.ok (.pointer (some ⟨w.heap.size,0,none⟩)) W1):=by show _=_; rw [hW1]; exact run_boxM C1 w
 have HR2:Hid ((Instr.box 40 (.agg C2)).run Tryz.prog W1=.ok (.pointer (some ⟨w.heap.size+1,0,none⟩)) X0):=by
  show _=_
  rw [hX0,run_boxM C2 W1,hW1,show (w.alloc (.cells C1 40)).heap.size=w.heap.size+1 by simp]
 rw [← hW1,← hX0] at F1 F2 HBel HSZ
 have HS0:X0.heap.size=w.heap.size+2:=HSZ.out
 have HS:=hide HS0
 have z1:w.heap.size < X0.heap.size:=by omega
 have z2:w.heap.size+1 < X0.heap.size:=by omega
 have B0:Hid (Below (w.heap.size+2) X0 X0):=Below.refl _ _
 clear h1 h2 e1 e2 hW1 hX0 HB1 HB2 HB1' HSZ HS0
 have x1_0:X0.cell? ⟨w.heap.size,0,none⟩=some (.int .i64 k):=F1.out X0 B0.out 0 _ rfl
 have x1_1:X0.cell? ⟨w.heap.size,1,none⟩=some (.int .i64 oa):=F1.out X0 B0.out 1 _ rfl
 have x1_2:X0.cell? ⟨w.heap.size,2,none⟩=some (.int .i64 (oh:Int)):=F1.out X0 B0.out 2 _ rfl
 have x1_3:X0.cell? ⟨w.heap.size,3,none⟩=some (.int .u32 (oi:Int)):=F1.out X0 B0.out 3 _ rfl
 have x1_4:X0.cell? ⟨w.heap.size,4,none⟩=some (.bool four):=F1.out X0 B0.out 4 _ rfl
 have x1_5:X0.cell? ⟨w.heap.size,5,none⟩=some (.int .i64 as4):=F1.out X0 B0.out 5 _ rfl
 have x1_6:X0.cell? ⟨w.heap.size,6,none⟩=some (.bool gr):=F1.out X0 B0.out 6 _ rfl
 have x1_7:X0.cell? ⟨w.heap.size,7,none⟩=some (.bool rs):=F1.out X0 B0.out 7 _ rfl
 have x1_8:X0.cell? ⟨w.heap.size,8,none⟩=some (.int .i64 tm):=F1.out X0 B0.out 8 _ rfl
 have x1_9:X0.cell? ⟨w.heap.size,9,none⟩=some (.bool fam):=F1.out X0 B0.out 9 _ rfl
 have x1_10:X0.cell? ⟨w.heap.size,10,none⟩=some (.bool fwd):=F1.out X0 B0.out 10 _ rfl
 have x1_11:X0.cell? ⟨w.heap.size,11,none⟩=some (.bool ll):=F1.out X0 B0.out 11 _ rfl
 have x1_12:X0.cell? ⟨w.heap.size,12,none⟩=some (.int .i64 lt):=F1.out X0 B0.out 12 _ rfl
 have x1_22:X0.cell? ⟨w.heap.size,22,none⟩=some (.int .i64 nc):=F1.out X0 B0.out 22 _ rfl
 have x1_23:X0.cell? ⟨w.heap.size,23,none⟩=some (.int .i64 ns):=F1.out X0 B0.out 23 _ rfl
 have x1_24:X0.cell? ⟨w.heap.size,24,none⟩=some (.slice a1 dl c1):=F1.out X0 B0.out 24 _ rfl
 have x2_0:X0.cell? ⟨w.heap.size+1,0,none⟩=some (.int .i64 k):=F2.out X0 B0.out 0 _ rfl
 have x2_1:X0.cell? ⟨w.heap.size+1,1,none⟩=some (.int .i64 oa):=F2.out X0 B0.out 1 _ rfl
 have x2_2:X0.cell? ⟨w.heap.size+1,2,none⟩=some (.int .i64 (oh:Int)):=F2.out X0 B0.out 2 _ rfl
 have x2_3:X0.cell? ⟨w.heap.size+1,3,none⟩=some (.int .u32 (oi:Int)):=F2.out X0 B0.out 3 _ rfl
 have x2_4:X0.cell? ⟨w.heap.size+1,4,none⟩=some (.bool four):=F2.out X0 B0.out 4 _ rfl
 have x2_5:X0.cell? ⟨w.heap.size+1,5,none⟩=some (.int .i64 as4):=F2.out X0 B0.out 5 _ rfl
 have x2_6:X0.cell? ⟨w.heap.size+1,6,none⟩=some (.bool gr):=F2.out X0 B0.out 6 _ rfl
 have x2_7:X0.cell? ⟨w.heap.size+1,7,none⟩=some (.bool rs):=F2.out X0 B0.out 7 _ rfl
 have x2_8:X0.cell? ⟨w.heap.size+1,8,none⟩=some (.int .i64 tm):=F2.out X0 B0.out 8 _ rfl
 have x2_9:X0.cell? ⟨w.heap.size+1,9,none⟩=some (.bool fam):=F2.out X0 B0.out 9 _ rfl
 have x2_10:X0.cell? ⟨w.heap.size+1,10,none⟩=some (.bool fwd):=F2.out X0 B0.out 10 _ rfl
 have x2_11:X0.cell? ⟨w.heap.size+1,11,none⟩=some (.bool ll):=F2.out X0 B0.out 11 _ rfl
 have x2_12:X0.cell? ⟨w.heap.size+1,12,none⟩=some (.int .i64 lt):=F2.out X0 B0.out 12 _ rfl
 have x2_22:X0.cell? ⟨w.heap.size+1,22,none⟩=some (.int .i64 nc):=F2.out X0 B0.out 22 _ rfl
 have x2_23:X0.cell? ⟨w.heap.size+1,23,none⟩=some (.int .i64 ns):=F2.out X0 B0.out 23 _ rfl
 have x2_24:X0.cell? ⟨w.heap.size+1,24,none⟩=some (.slice a2 dl c2):=F2.out X0 B0.out 24 _ rfl
 go_enter Tryz.func13,Tryz.ntmps13
 go_wp2_with (first | (refine keptM_box_intro _ (.agg C1) _ (by rfl) HR1.out ?_) | (refine keptM_box_intro _ (.agg C2) _ (by rfl) HR2.out ?_))
 with_reducible refine (KN.out X0 HBel.out).mono ?_
 rintro e w3 ⟨rfl,HB3⟩
 have B3:Hid (Below (w.heap.size+2) X0 w3):=by show Below _ _ _; rw [← HS.out]; exact HB3.out
 have BW3:Hid (Below w.heap.size w w3):=HBel.out.trans (B3.out.mono (by omega))
 have z31:w.heap.size < w3.heap.size:=by have:=B3.out.size; omega
 have z32:w.heap.size+1 < w3.heap.size:=by have:=B3.out.size; omega
 clear x1_0 x1_1 x1_2 x1_3 x1_4 x1_5 x1_6 x1_7 x1_8 x1_9 x1_10 x1_11 x1_12 x1_22 x1_23 x1_24 x2_0 x2_1 x2_2 x2_3 x2_4 x2_5 x2_6 x2_7 x2_8 x2_9 x2_10 x2_11 x2_12 x2_22 x2_23 x2_24
 have x1_13:w3.cell? ⟨w.heap.size,13,none⟩=some (.slice v1 pl vc1):=F1.out w3 B3.out 13 _ rfl
 have x2_13:w3.cell? ⟨w.heap.size+1,13,none⟩=some (.slice v2 pl vc2):=F2.out w3 B3.out 13 _ rfl
 go_wp2_with fail
 with_reducible refine (KG.out w3 BW3.out).mono ?_
 rintro e w4 ⟨rfl,HB4⟩
 have B4:Hid (Below (w.heap.size+2) X0 w4):=B3.out.trans (HB4.out.mono (by omega))
 have BW4:Hid (Below w.heap.size w w4):=HBel.out.trans (B4.out.mono (by omega))
 have z41:w.heap.size < w4.heap.size:=by have:=HB4.out.size; omega
 have z42:w.heap.size+1 < w4.heap.size:=by have:=HB4.out.size; omega
 clear x1_13 x2_13
 have x1_21:w4.cell? ⟨w.heap.size,21,none⟩=some (.slice u1 ql uc1):=F1.out w4 B4.out 21 _ rfl
 have x2_21:w4.cell? ⟨w.heap.size+1,21,none⟩=some (.slice u2 ql uc2):=F2.out w4 B4.out 21 _ rfl
 go_wp2_with fail
 with_reducible refine (KL.out w4 BW4.out).mono ?_
 rintro e w5 ⟨rfl,HB5⟩
 have B5:Hid (Below (w.heap.size+2) X0 w5):=B4.out.trans (HB5.out.mono (by omega))
 have BW5:Hid (Below w.heap.size w w5):=HBel.out.trans (B5.out.mono (by omega))
 have z51:w.heap.size < w5.heap.size:=by have:=HB5.out.size; omega
 have z52:w.heap.size+1 < w5.heap.size:=by have:=HB5.out.size; omega
 clear x1_21 x2_21
 have x1_14:w5.cell? ⟨w.heap.size,14,none⟩=some (.int .i64 og):=F1.out w5 B5.out 14 _ rfl
 have x1_15:w5.cell? ⟨w.heap.size,15,none⟩=some (.slice p1 pn pk1):=F1.out w5 B5.out 15 _ rfl
 have x1_16:w5.cell? ⟨w.heap.size,16,none⟩=some (.int .u32 (nx:Int)):=F1.out w5 B5.out 16 _ rfl
 have x1_17:w5.cell? ⟨w.heap.size,17,none⟩=some (.int .i64 md):=F1.out w5 B5.out 17 _ rfl
 have x1_18:w5.cell? ⟨w.heap.size,18,none⟩=some (.int .i64 pf):=F1.out w5 B5.out 18 _ rfl
 have x1_19:w5.cell? ⟨w.heap.size,19,none⟩=some (.slice q1 cn qk1):=F1.out w5 B5.out 19 _ rfl
 have x1_20:w5.cell? ⟨w.heap.size,20,none⟩=some (.slice r1 rn rk1):=F1.out w5 B5.out 20 _ rfl
 have x2_14:w5.cell? ⟨w.heap.size+1,14,none⟩=some (.int .i64 og):=F2.out w5 B5.out 14 _ rfl
 have x2_15:w5.cell? ⟨w.heap.size+1,15,none⟩=some (.slice p2 pn pk2):=F2.out w5 B5.out 15 _ rfl
 have x2_16:w5.cell? ⟨w.heap.size+1,16,none⟩=some (.int .u32 (nx:Int)):=F2.out w5 B5.out 16 _ rfl
 have x2_17:w5.cell? ⟨w.heap.size+1,17,none⟩=some (.int .i64 md):=F2.out w5 B5.out 17 _ rfl
 have x2_18:w5.cell? ⟨w.heap.size+1,18,none⟩=some (.int .i64 pf):=F2.out w5 B5.out 18 _ rfl
 have x2_19:w5.cell? ⟨w.heap.size+1,19,none⟩=some (.slice q2 cn qk2):=F2.out w5 B5.out 19 _ rfl
 have x2_20:w5.cell? ⟨w.heap.size+1,20,none⟩=some (.slice r2 rn rk2):=F2.out w5 B5.out 20 _ rfl
 go_wp2_with fail
 with_reducible refine (KA.out w5 BW5.out).mono ?_
 rintro e w6 ⟨rfl,HB6⟩
 clear x1_14 x1_15 x1_16 x1_17 x1_18 x1_19 x1_20 x2_14 x2_15 x2_16 x2_17 x2_18 x2_19 x2_20
 go_wp2
 go_ret
 exact ⟨rfl,BW5.out.trans (HB6.out.mono BW5.out.size)⟩
end
theorem samemsg_any {w:World}{B1 B2:Nat}{C1 C2:Array Value}{p:PM} (hp:PMok p) (h1:MsgOwn w B1 C1 p) (h2:MsgOwn w B2 C2 p) :
  Calls Tryz.prog 13 #[.agg C1,.agg C2] w fun e w'=>e=.returned (.bool true)∧Below w.heap.size w w':=by
 obtain ⟨v1,A1,u1,a1,c1,e1,g1,n1,at1,d1⟩:=h1
 obtain ⟨v2,A2,u2,a2,c2,e2,g2,n2,at2,d2⟩:=h2
 obtain ⟨va1,vc1,rfl⟩:=own_slice g1
 obtain ⟨va2,vc2,rfl⟩:=own_slice g2
 obtain ⟨ua1,uc1,rfl⟩:=own_slice n1
 obtain ⟨ua2,uc2,rfl⟩:=own_slice n2
 obtain ⟨p1,pk1,q1,qk1,r1,rk1,rfl,x1,y1,z1⟩:=at1
 obtain ⟨p2,pk2,q2,qk2,r2,rk2,rfl,x2,y2,z2⟩:=at2
 have R1:=dec_rd hp.nx hp.sz hp.rw x1 y1 z1
 have R2:=dec_rd hp.nx hp.sz hp.rw x2 y2 z2
 have D1:=own_read' d1 rfl (by have:=hp.ndl; omega) hp.nd
 have D2:=own_read' d2 rfl (by have:=hp.ndl; omega) hp.nd
 refine samemsg_walk w p.k p.oa p.oh p.oi p.oc p.nc p.ns p.at_ p.gl.length p.nl.length p.nd.length p.at_.path.length p.at_.comms.length p.at_.raws.length va1 va2 ua1 ua2 vc1 vc2 uc1 uc2 p1 p2 q1 q2 r1 r2 pk1 pk2 qk1 qk2 rk1 rk2 a1 a2 c1 c2 ?_ ?_ ?_ ?_ C1 C2 e1 e2
 ·intro X hX
  refine (samenote_any (p.nc:Int) (p.ns:Int) (p.nc:Int) (p.ns:Int) a1 a2 c1 c2 p.nd p.nd X (by have:=hp.ndl; omega) (D1.below hX) (D2.below hX)).mono ?_
  rintro e w' ⟨rfl,hb⟩
  exact ⟨ret_bool (by simp),hb⟩
 ·intro X hX
  refine (samep_any (own_later g1 hX) (own_later g2 hX) (by have:=hp.gll; omega)).mono ?_
  rintro e w' ⟨rfl,m,rfl⟩
  exact ⟨rfl,below_drewN (Below.refl _ _) m⟩
 ·intro X hX
  refine (samep_any (own_later n1 hX) (own_later n2 hX) (by have:=hp.nll; omega)).mono ?_
  rintro e w' ⟨rfl,m,rfl⟩
  exact ⟨rfl,below_drewN (Below.refl _ _) m⟩
 ·intro X hX
  have K:=samea_any p1 p2 pk1 pk2 q1 q2 qk1 qk2 r1 r2 rk1 rk2 p.at_ p.at_ X hp.sz hp.sz (R1.below hX) (R2.below hX)
  rw [eqA_refl] at K
  unfold atV at K
  exact K.mono fun e w' h=>⟨h.1,h.2⟩
theorem decRun_len {f:Nat→Nat}{len:Nat} : ∀ (k i:Nat) (acc r:List (Nat×Nat)),len - i≤k→decRun f len i acc=some r→r.length≤acc.length+(len - i)
 | 0,i,acc,r,hk,h=>by
  rw [decRun_end (by omega)] at h
  cases h
  omega
 | k+1,i,acc,r,hk,h=>by
  by_cases hi:i < len
  ·cases ho:okAt f len i with
   | false=>rw [decRun_no hi ho] at h; cases h
   | true =>
    rw [decRun_go hi ho] at h
    have:=decRun_len k _ _ r (by omega) h
    simp only [List.length_append,List.length_singleton] at this
    omega
  ·rw [decRun_end hi] at h
   cases h
   omega
theorem pfxB_len {bs:List Nat}{r:List (Nat×Nat)} (h:pfxB bs=some r):r.length≤bs.length:=by
 have:=decRun_len bs.length 0 [] r (by omega) h
 simpa using this
theorem at0_nx:at0.next < 4294967296:=by decide
theorem at0_sz:sizeA at0≤100000:=by decide
theorem pm0_ok:PMok pm0:=⟨fun x h=>by simp [pm0] at h,by decide,by decide,by decide,by decide,by decide,fun r h=>by simp [pm0,at0] at h⟩
theorem drop_lt {bs:List Nat}(h:∀ x∈bs,x < 256)(k:Nat):∀ x∈bs.drop k,x < 256:=fun x hx=>h x (List.mem_of_mem_drop hx)
theorem cutP_mem {k:Nat}{bs p q:List Nat} (hb:∀ x∈bs,x < 256) (h:cutP k bs=some (p,q)):(∀ x∈p,x < 256)∧(∀ x∈q,x < 256):=by
 unfold cutP at h
 split at h
 ·cases h
 ·split at h
  ·cases h
  ·simp only [Option.some.injEq,Prod.mk.injEq] at h
   obtain ⟨rfl,rfl⟩:=h
   exact ⟨fun x hx=>hb x (List.mem_of_mem_drop (List.mem_of_mem_take hx)),fun x hx=>hb x (List.mem_of_mem_drop hx)⟩
theorem upR_ok {bs:List Nat}(hb:∀ x∈bs,x < 256)(hl:bs.length≤5000):match upR bs with
  | .inl (_,_,d)=>(∀ x∈d,x < 256)∧d.length≤5001
  | .inr (G,N,r)=>PMok (pmUp G N r):=by
 unfold upR
 cases h1:cutP 2 bs with
 | none=>simp
 | some pq =>
  obtain ⟨p,q⟩:=pq
  obtain ⟨m1,m2⟩:=cutP_mem hb h1
  obtain ⟨l1,l2⟩:=cutP_len h1
  simp only
  cases h2:cutP 2 q with
  | none=>simp
  | some an =>
   obtain ⟨at_,nl⟩:=an
   obtain ⟨m3,m4⟩:=cutP_mem m2 h2
   obtain ⟨l3,l4⟩:=cutP_len h2
   simp only
   cases h3:pfxB p with
   | none=>simp
   | some G =>
    cases h4:pfxB nl with
    | none=>simp
    | some N =>
     have g1:=pfxB_len h3
     have g2:=pfxB_len h4
     simp only
     by_cases h5:N=[]∧at_=[]
     ·rw [if_pos h5]
      exact ⟨fun x h=>by simp [pmUp] at h,by simp [pmUp],by simp only [pmUp]; omega,by simp [pmUp],at0_nx,at0_sz,fun r h=>by simp [pmUp,at0] at h⟩
     ·rw [if_neg h5]
      cases h6:readA at_ with
      | inl x =>
       obtain ⟨k,s,d⟩:=x
       obtain ⟨_,n2,n3⟩:=read_note m3 h6
       exact ⟨n2,by simp only at n3; omega⟩
      | inr b =>
       obtain ⟨_,hn,hs,hw⟩:=read_good m3 h6
       simp only
       by_cases hN:N=[]
       ·rw [if_pos hN]
        exact ⟨fun x h=>by simp [pmUp] at h,by simp [pmUp],by simp only [pmUp]; omega,by simp only [pmUp]; omega,at0_nx,at0_sz,fun r h=>by simp [pmUp,at0] at h⟩
       ·rw [if_neg hN]
        exact ⟨fun x h=>by simp [pmUp] at h,by simp [pmUp],by simp only [pmUp]; omega,by simp only [pmUp]; omega,hn,by simp only [pmUp,Option.getD_some]; omega,hw⟩
theorem headM_lt' {bs:List Nat}(h:∀ x∈bs,x < 256):∀ x∈(headM bs).2.2.2,x < 256:=by
 unfold headM
 repeat' split
 all_goals first | (intro x hx; exact h x (List.mem_of_mem_drop (List.mem_of_mem_take hx))) | (intro x hx; simp at hx)
theorem headM_le' (bs:List Nat):(headM bs).2.2.2.length≤2:=by
 unfold headM
 repeat' split
 all_goals first | (simp; done) | (simp; omega)
theorem readM_ok {bs:List Nat}(hb:∀ x∈bs,x < 256)(hl:bs.length≤5000):PMok (readM bs).1∧(∀ x∈(readM bs).2.2.2,x < 256)∧(readM bs).2.2.2.length≤5001:=by
 unfold readM
 split
 ·exact ⟨pm0_ok,headM_lt' hb,by have:=headM_le' bs; simp only; omega⟩
 ·split
  ·exact ⟨pm0_ok,by simp,by simp⟩
  ·split
   ·cases ho:openR (bs.drop 19) with
    | inl x =>
     obtain ⟨k,s,d⟩:=x
     refine ⟨pm0_ok,?_⟩
     unfold openR at ho
     repeat' split at ho
     all_goals first | (simp only [Sum.inl.injEq,Prod.mk.injEq] at ho; obtain ⟨_,_,rfl⟩:=ho; simp) | (cases ho; done)
    | inr x =>
     obtain ⟨a,h,i,c⟩:=x
     exact ⟨⟨fun x h=>by simp [pmOpen] at h,by simp [pmOpen],by simp [pmOpen],by simp [pmOpen],at0_nx,at0_sz,fun r h=>by simp [pmOpen,at0] at h⟩,by simp,by simp⟩
   ·split
    ·have:=upR_ok (drop_lt hb 19) (by rw [List.length_drop]; omega)
     cases hu:upR (bs.drop 19) with
     | inl x =>
      obtain ⟨k,s,d⟩:=x
      rw [hu] at this
      exact ⟨pm0_ok,this.1,this.2⟩
     | inr x =>
      obtain ⟨G,N,r⟩:=x
      rw [hu] at this
      exact ⟨this,by simp,by simp⟩
    ·split
     ·exact ⟨⟨drop_lt hb 21,by simp only [pmNote,List.length_drop]; omega,by simp [pmNote],by simp [pmNote],at0_nx,at0_sz,fun r h=>by simp [pmNote,at0] at h⟩,by simp,by simp⟩
     ·exact ⟨⟨fun x h=>by simp [pmAlive] at h,by simp [pmAlive],by simp [pmAlive],by simp [pmAlive],at0_nx,at0_sz,fun r h=>by simp [pmAlive,at0] at h⟩,by simp,by simp⟩
structure LB (w1 X:World) (C:Array Value) (c s:Int) (a:Option Addr) (n cap:Nat):Prop where
 bM:X.heap[w1.heap.size]?=some (.cells C 40 (0,0))
 bN:X.heap[w1.heap.size+1]?=some (.cells #[.int .i64 c,.int .i64 s,.slice a n cap] 38 (0,0))
 bel:Below w1.heap.size w1 X
theorem law_boxes (w1:World){C:Array Value}(hC:MC C)(c s:Int)(a:Option Addr)(n cap:Nat) :
  ∃ X1 X3,Hid ((Instr.alloc 40 true (.tuple #[])).run Tryz.prog w1=.ok (.pointer (some ⟨w1.heap.size,0,none⟩)) X1)∧X1.heap.size=w1.heap.size+1∧Hid ((Instr.storeAt 40 (.pointer (some ⟨w1.heap.size,0,none⟩)) (.agg C)).run Tryz.prog (X1.alloc (.cells #[.int .i64 0,.int .i64 0,.slice none 0 0] 38))=.ok () X3)∧Hid (NtBox X3 (w1.heap.size+1))∧Hid (LB w1 (((X3.setCell ⟨w1.heap.size+1,0,none⟩ (.int .i64 c)).setCell ⟨w1.heap.size+1,1,none⟩ (.int .i64 s)).setCell ⟨w1.heap.size+1,2,none⟩ (.slice a n cap)) C c s a n cap):=by
 have hX1:(w1.alloc (.cells zM 40)).heap.size=w1.heap.size+1:=by simp
 have hM:((w1.alloc (.cells zM 40)).alloc (.cells #[.int .i64 0,.int .i64 0,.slice none 0 0] 38)).heap[w1.heap.size]?=some (.cells zM 40 (0,0)):=by rw [heap_old (by simp)]; exact heap_alloc_new w1 _
 have hN:((w1.alloc (.cells zM 40)).alloc (.cells #[.int .i64 0,.int .i64 0,.slice none 0 0] 38)).heap[w1.heap.size+1]?=some (.cells #[.int .i64 0,.int .i64 0,.slice none 0 0] 38 (0,0)):=by rw [← hX1]; exact heap_alloc_new _ _
 have h5:=bx_put (C:=C) hM hC.1
 have h6:(((w1.alloc (.cells zM 40)).alloc (.cells #[.int .i64 0,.int .i64 0,.slice none 0 0] 38)).setCells w1.heap.size 0 C.toList).heap[w1.heap.size+1]?=some (.cells #[.int .i64 0,.int .i64 0,.slice none 0 0] 38 (0,0)):=by rw [heap_sets (by omega)]; exact hN
 have hb:Below w1.heap.size w1 ((w1.alloc (.cells zM 40)).alloc (.cells #[.int .i64 0,.int .i64 0,.slice none 0 0] 38)):=((Below.refl _ _).alloc (Nat.le_refl _) _).alloc (by simp) _
 have hk:Keeps (fun x=>x=w1.heap.size∨x=w1.heap.size+1) ((w1.alloc (.cells zM 40)).alloc (.cells #[.int .i64 0,.int .i64 0,.slice none 0 0] 38)) ((((w1.alloc (.cells zM 40)).alloc (.cells #[.int .i64 0,.int .i64 0,.slice none 0 0] 38)).setCells w1.heap.size 0 C.toList).setCells (w1.heap.size+1) 0 [.int .i64 c,.int .i64 s,.slice a n cap]):=((Keeps.refl _ _).setCells _ 0 _ (.inl (.inl rfl))).setCells _ 0 _ (.inl (.inr rfl))
 refine ⟨_,_,run_allocM w1,hX1,run_storeM hM rfl hC,nt_ofM h6,⟨?_,?_,?_⟩⟩
 ·have:=heap_sets (w:=(((w1.alloc (.cells zM 40)).alloc (.cells #[.int .i64 0,.int .i64 0,.slice none 0 0] 38)).setCells w1.heap.size 0 C.toList)) (g:=w1.heap.size+1) (k:=w1.heap.size) (vs:=[.int .i64 c,.int .i64 s,.slice a n cap]) (by omega)
  exact this.trans h5
 ·exact bx_put (C:=#[.int .i64 c,.int .i64 s,.slice a n cap]) h6 rfl
 ·exact hb.trans (hk.below _ hb.size (fun x e=>by omega))
theorem LB.later {w1 X X':World}{C:Array Value}{c s:Int}{a:Option Addr}{n cap:Nat} (h:LB w1 X C c s a n cap) (hb:Below X.heap.size X X'):LB w1 X' C c s a n cap :=
 ⟨by rw [hb.block _ (Array.getElem?_eq_some_iff.1 h.bM).1]; exact h.bM,by rw [hb.block _ (Array.getElem?_eq_some_iff.1 h.bN).1]; exact h.bN,h.bel.trans (hb.mono h.bel.size)⟩
theorem MC.own {w:World}{B:Nat}{C:Array Value}{p:PM} (h:MsgOwn w B C p):MC C:=by
 obtain ⟨v,A,u,a,cap,rfl,h1,h2,h3,h4⟩:=h
 obtain ⟨va,vc,rfl⟩:=own_slice h1
 obtain ⟨ua,uc,rfl⟩:=own_slice h2
 obtain ⟨p1,k1,p5,k5,p6,k6,rfl,_⟩:=h3
 exact ⟨by simp [openC,updC],by simp [openC,updC,Value.oneCell']⟩
theorem MsgOwn.later {w w':World}{B:Nat}{C:Array Value}{p:PM} (h:MsgOwn w B C p) (hb:Below w.heap.size w w'):MsgOwn w' B C p:=by
 obtain ⟨v,A,u,a,cap,e,h1,h2,⟨p1,k1,p5,k5,p6,k6,e2,x,y,z⟩,h4⟩:=h
 exact ⟨v,A,u,a,cap,e,own_later h1 hb,own_later h2 hb,⟨p1,k1,p5,k5,p6,k6,e2,x.later hb,own_later y hb,z.later hb⟩,own_later h4 hb⟩
theorem decM_note {w':World}{B:Nat}{d:List Nat}{a:Option Addr}{c:Nat} (hd:∀ x∈d,x < 256) (hl:d.length≤5001) (h:d≠[]→w'.ownsRow B 5 1 (.slice a d.length c) d.length (bcells d)):BRd w' a d:=by
 by_cases e:d=[]
 ·subst e; exact brd_none _ _
 ·exact own_read' (h e) rfl (by omega) hd
end Go.Proofs.YtogbjeaceboemaaGreatDoor
