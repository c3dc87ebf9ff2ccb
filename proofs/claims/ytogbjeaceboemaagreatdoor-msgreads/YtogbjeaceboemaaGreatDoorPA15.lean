import Derived.Test.YtogbjeaceboemaaGreatDoorPA13
import Derived.Test.YtogbjeaceboemaaGreatDoorPA10
import Derived.Test.YtogbjeaceboemaaGreatDoorPA14
namespace Go.Proofs.YtogbjeaceboemaaGreatDoor
open Go.RowKit
set_option maxRecDepth 100000
theorem Fr.lay12 {t0 t1 t2 t3 t4 t5 t6 t7 t8 t9 t10 t11:Nat}{b a:Act} (h:Fr [t0,t1,t2,t3,t4,t5,t6,t7,t8,t9,t10,t11] b a) (hsz:∀ s∈[t0,t1,t2,t3,t4,t5,t6,t7,t8,t9,t10,t11],s < b.tmps.size) :
  ∃ x0 x1 x2 x3 x4 x5 x6 x7 x8 x9 x10 x11,a=((((((((((((b.put (some t0) x0).put (some t1) x1).put (some t2) x2).put (some t3) x3).put (some t4) x4).put (some t5) x5).put (some t6) x6).put (some t7) x7).put (some t8) x8).put (some t9) x9).put (some t10) x10).put (some t11) x11):=by
 have get:∀ t,t∈[t0,t1,t2,t3,t4,t5,t6,t7,t8,t9,t10,t11]→∃ x,a.tmps[t]?=some x:=fun t ht=>⟨_,Array.getElem?_eq_getElem (by rw [h.size]; exact hsz t ht)⟩
 obtain ⟨x0,h0⟩:=get t0 (by simp)
 obtain ⟨x1,h1⟩:=get t1 (by simp)
 obtain ⟨x2,h2⟩:=get t2 (by simp)
 obtain ⟨x3,h3⟩:=get t3 (by simp)
 obtain ⟨x4,h4⟩:=get t4 (by simp)
 obtain ⟨x5,h5⟩:=get t5 (by simp)
 obtain ⟨x6,h6⟩:=get t6 (by simp)
 obtain ⟨x7,h7⟩:=get t7 (by simp)
 obtain ⟨x8,h8⟩:=get t8 (by simp)
 obtain ⟨x9,h9⟩:=get t9 (by simp)
 obtain ⟨x10,h10⟩:=get t10 (by simp)
 obtain ⟨x11,h11⟩:=get t11 (by simp)
 refine ⟨x0,x1,x2,x3,x4,x5,x6,x7,x8,x9,x10,x11,Fr.eq (b:=b) (l:=[(t0,x0),(t1,x1),(t2,x2),(t3,x3),(t4,x4),(t5,x5),(t6,x6),(t7,x7),(t8,x8),(t9,x9),(t10,x10),(t11,x11)]) (c:=b) rfl h.defers h.size h.out fun p hp=>?_⟩
 simp only [List.mem_cons,List.not_mem_nil,or_false] at hp
 rcases hp with rfl | rfl | rfl | rfl | rfl | rfl | rfl | rfl | rfl | rfl | rfl | rfl <;> assumption
section
attribute [local go_sem ↓] keptM_load keptM_store keptM_alloc keptM_build
set_option maxHeartbeats 4000000 in
theorem dec_note (g o n cp:Nat)(bs:List Nat)(w:World)(hn:bs.length=n)(hn21:21≤n)(hl:n≤5000)(hcap:n≤cp)(h:BRd w (some ⟨g,o,none⟩) bs)(hS:SaidM w)(hr:headM bs=(n,0,0,[]))(hk3:bs.getD 18 0=3) :
  Calls Tryz.prog 10 #[.slice (some ⟨g,o,none⟩) n cp] w fun e w'=>(∃ a8 c8 a9 c9,e=.returned (.tuple #[.agg (msgC 3 (bs.getD 19 0:Int) (bs.getD 20 0:Int) (.slice a8 (n - 19 - 2) c8)),.agg #[.int .i64 0,.int .i64 0,.slice a9 0 c9]])∧w'.ownsRow w.heap.size 5 1 (.slice a8 (n - 19 - 2) c8) (n - 19 - 2) (bcells (bs.drop 21)))∧Below w.heap.size w w':=by
 have KH:=head_dW (some ⟨g,o,none⟩) cp bs w (by omega) (by omega) h hS _ hr
 rw [hn] at KH
 have HK:=hide KH
 obtain ⟨g',o',e9,hc⟩:=h.1.2 (by omega)
 cases e9
 have c18:w.cell? ⟨g,o+18,none⟩=some (.int .u8 3):=by rw [hc 18 (by omega)]; show some (Value.int .u8 ((bs.getD 18 0:Nat):Int))=_; rw [hk3]; rfl
 have zg:=World.block_lt_of_cell? w _ c18
 simp only at zg
 have hcp19:¬ cp=19:=by omega
 have hni:¬ ((n:Int) < 19):=by omega
 have H29:Hid (21≤n∧n≤5000):=⟨hn21,hl⟩
 have HX19:Hid (∀ X,Below w.heap.size w X→X.cell? ⟨g,o+19,none⟩=some (.int .u8 (bs.getD 19 0:Int))∧X.cell? ⟨g,o+19+1,none⟩=some (.int .u8 (bs.getD 20 0:Int))∧BRd X (if cp - 19=2 then some ⟨g,o+19,none⟩ else some ⟨g,o+19+2,none⟩) (bs.drop 21)):=fun X hX=>by
  refine ⟨?_,?_,?_⟩
  ·rw [hX.cell (p:=⟨g,o+19,none⟩) zg]; exact hc 19 (by omega)
  ·rw [hX.cell (p:=⟨g,o+19+1,none⟩) zg]; exact hc 20 (by omega)
  ·have h19:=brd_drop (k:=19) (h.below hX) (by omega)
   have:=brd_sub (a:=if cp - 19=2 then some ⟨g,o+19,none⟩ else some ⟨g,o+19+2,none⟩) (k:=2) (l:=n - 21) (c:=cp - 19) h19 (by rw [List.length_drop]; omega) (by rw [List.length_drop]; omega) rfl
   rwa [List.drop_drop,List.take_of_length_le (by rw [List.length_drop]; omega)] at this
 have hx256:bs.getD 19 0 < 256:=getD_lt256 h.2 19
 have hy256:bs.getD 20 0 < 256:=getD_lt256 h.2 20
 have hdl:(bs.drop 21).length=n - 19 - 2:=by rw [List.length_drop]; omega
 have HDL:=hide hdl
 clear KH h hS hcap hr hn hk3 hc hl hn21 hdl
 simp only at HK
 generalize bs.getD 19 0=x at *
 generalize bs.getD 20 0=y at *
 generalize bs.drop 21=d at *
 go_enter Tryz.func10,Tryz.ntmps10
 go_wp2_with (refine keptM_alloc_intro _ (run_allocM w) ?_)
 show Calls Tryz.prog 23 #[.slice (some ⟨g,o,none⟩) n cp] (dW w) _
 with_reducible refine HK.out.mono ?_
 rintro e w1 ⟨a9,c9,rfl,HO,HB⟩
 have HH:=hide (h6_of a9 0 c9 HB.out zg c18)
 go_wp2_with fail
 generalize (w1.alloc (.cells #[.int .i64 0,.int .i64 0,.slice a9 0 c9] 38))=W at *
 refine m_region _ W g o n cp 3 (opi rfl) (opi rfl) (opi rfl) (opi rfl) (opi rfl) (opi rfl) (opi rfl) (opi rfl) (opi rfl) (opi rfl) rfl (by kernel_rfl)
  (by kernel_rfl) (by kernel_rfl) (by kernel_rfl) (by kernel_rfl) (by kernel_rfl) (by kernel_rfl) (by kernel_rfl) (by kernel_rfl) (by kernel_rfl) (by kernel_rfl) (by kernel_rfl)
  rfl rfl (by have:=H29.out.1; omega) (by have:=H29.out.2; omega) (by omega) HH.out.c18 ?_
 intro a W6 hfr h6 h7 bY hb6
 rw [if_neg hcp19] at h7
 obtain ⟨x0,x1,x2,x3,x4,x5,x6,rfl⟩:=hfr.lay9m (by exact (by decide:∀ s∈[29,30,31,32,33,34,35,6,7],s < 75)) h6 h7
 have HD:Hid (D6 w W6 w1.heap.size W.heap.size (msgC 3 0 0 (.slice none 0 0)) (.slice a9 0 c9)):=HH.out.d6 bY hb6
 have hsz:=HH.out.le
 have y0:W6.cell? ⟨W.heap.size,0,none⟩=some (.int .i64 3):=range_of HD.out.bY 0 _ rfl
 have zY:W.heap.size < W6.heap.size:=HD.out.hs
 clear hfr h6 h7 bY hb6
 simp only [Act.put,List.setIfInBounds_toArray,List.set_cons_zero,List.set_cons_succ]
 go_wp2_with fail
 obtain ⟨q19,q20,qd⟩:=HX19.out W6 HD.out.bel
 refine n_region _ W6 W.heap.size g (o+19) (n - 19) (cp - 19) x y d (opi rfl) (opi rfl) (opi rfl) (opi rfl) (opi rfl) (opi rfl) (opi rfl) (opi rfl) (opi rfl) (opi rfl) (opi rfl) (opi rfl) (opi rfl) rfl (by kernel_rfl)
  (by kernel_rfl) (by kernel_rfl) (by kernel_rfl) (by kernel_rfl) (by kernel_rfl) (by kernel_rfl) (by kernel_rfl) (by kernel_rfl) (by kernel_rfl) (by kernel_rfl) (by kernel_rfl) (by kernel_rfl) (by kernel_rfl) (by kernel_rfl)
  rfl rfl rfl (by have:=H29.out; omega) (by have:=H29.out; omega) hx256 hy256 q19 q20 (by have:=HD.out.hX; have:=HD.out.hY; omega) HD.out.bY HDL.out (fun X hX=>(HX19.out X (HD.out.bel.trans (hX.mono HD.out.bel.size))).2.2) ?_
 intro a W8 W9 a8 c8 hfr hb8 ho8 hk9 b9 z9
 obtain ⟨y0',y1',y2',y3',y4',y5',y6',y7',y8',y9',y10',y11',rfl⟩:=hfr.lay12 (by exact (by decide:∀ s∈[56,57,58,59,60,61,62,63,64,65,66,67],s < 75))
 have zx:w1.heap.size≠W.heap.size∧w.heap.size+2≤w1.heap.size∧w1.heap.size < W.heap.size:=by have:=HD.out.hX; have:=HD.out.hY; omega
 have keepB:∀ j,j < W6.heap.size→j≠W.heap.size→W9.heap[j]?=W6.heap[j]?:=fun j hj hne=>by rw [hk9.block j (by have:=hb8.size; omega) hne,hb8.block j hj]
 have H9M:Hid (W9.heap[w.heap.size]?=some (.cells zM 40 (0,0))):=by show _=_; rw [keepB _ (by omega) (by omega)]; exact HD.out.bM
 have H9N:Hid (W9.heap[w.heap.size+1]?=some (.cells #[.int .i64 0,.int .i64 0,.slice none 0 0] 38 (0,0))):=by show _=_; rw [keepB _ (by omega) (by omega)]; exact HD.out.bN
 have H9X:Hid (W9.heap[w1.heap.size]?=some (.cells #[.int .i64 0,.int .i64 0,.slice a9 0 c9] 38 (0,0))):=by show _=_; rw [keepB _ (by omega) (by omega)]; exact HD.out.bX
 have H9Y:=hide b9
 have B9:Hid (Below w.heap.size w W9):=HD.out.bel.trans ((hb8.mono HD.out.bel.size).trans (hk9.below _ (by have:=HD.out.bel.size; have:=hb8.size; omega) (fun x e=>by omega)))
 have HOW9:Hid (W9.ownsRow W6.heap.size 5 1 (.slice a8 (n - 19 - 2) c8) (n - 19 - 2) (bcells d)):=own_keep ho8 hk9 (fun x hx=>by omega)
 have zXx:w1.heap.size < W9.heap.size:=(Array.getElem?_eq_some_iff.1 H9X.out).1
 have zYx:W.heap.size < W9.heap.size:=(Array.getElem?_eq_some_iff.1 b9).1
 have x9:W9.cell? ⟨w1.heap.size,0,none⟩=some (.int .i64 0):=by have:=range_of H9X.out 0 _ rfl; simpa using this
 clear hfr hb8 ho8 hk9 b9 z9 keepB q19 q20 qd
 simp only [Act.put,List.setIfInBounds_toArray,List.set_cons_zero,List.set_cons_succ]
 go_wp2_with fail
 refine out_region _ W9 w.heap.size (w.heap.size+1) 40 zM (msgC 3 (x:Int) (y:Int) (.slice a8 (n - 19 - 2) c8)) #[.int .i64 0,.int .i64 0,.slice none 0 0] #[.int .i64 0,.int .i64 0,.slice a9 0 c9] 73 74 _ _ (opi rfl) (opi rfl) (opi rfl) (opi rfl) rfl (by kernel_rfl) (by kernel_rfl) (by kernel_rfl) (by kernel_rfl) (by kernel_rfl) (by kernel_rfl) (by kernel_rfl) (by kernel_rfl)
  (fun ty po af W' hW=>run_of_loadM (MC.msg 3 (x:Int) (y:Int) a8 (n - 19 - 2) c8) (g:=W.heap.size) (by rfl) (range_of (by rw [hW.block _ zYx (by omega)]; exact H9Y.out)))
  (fun ty po af W' hW=>run_of_loadN (g:=w1.heap.size) (by rfl) (by
   rw [hW.block _ zXx (by omega)]; exact H9X.out)) rfl rfl (show 73 < 75 by decide) (show 74 < 75 by decide) (by decide) H9M.out H9N.out (by omega) rfl rfl infoM infoN (MC.msg 3 (x:Int) (y:Int) a8 (n - 19 - 2) c8).2 (by simp [Value.oneCell']) ?_
 simp only [Act.put,List.setIfInBounds_toArray,List.set_cons_zero,List.set_cons_succ]
 have HRM:Hid (((({ W9 with drawn:=W9.drawn+1 } : World).setCells w.heap.size 0 (msgC 3 (x:Int) (y:Int) (.slice a8 (n - 19 - 2) c8)).toList).setCells (w.heap.size+1) 0 (#[Value.int .i64 0,.int .i64 0,.slice a9 0 c9]:Array Value).toList).rangeAt w.heap.size 0 (msgC 3 (x:Int) (y:Int) (.slice a8 (n - 19 - 2) c8)).toList):=bx_apart (bx_set (w:={ W9 with drawn:=W9.drawn+1 }) H9M.out (Nat.le_refl _)) (by omega)
 have HRN:Hid (((({ W9 with drawn:=W9.drawn+1 } : World).setCells w.heap.size 0 (msgC 3 (x:Int) (y:Int) (.slice a8 (n - 19 - 2) c8)).toList).setCells (w.heap.size+1) 0 (#[Value.int .i64 0,.int .i64 0,.slice a9 0 c9]:Array Value).toList).rangeAt (w.heap.size+1) 0 (#[Value.int .i64 0,.int .i64 0,.slice a9 0 c9]:Array Value).toList) :=
  bx_set (C0:=#[.int .i64 0,.int .i64 0,.slice none 0 0]) (t:=38) (by rw [heap_sets (by omega)]; exact H9N.out) (by simp)
 have HKe:Hid (Keeps (fun x=>x=w.heap.size∨x=w.heap.size+1) W9 ((({ W9 with drawn:=W9.drawn+1 } : World).setCells w.heap.size 0 (msgC 3 (x:Int) (y:Int) (.slice a8 (n - 19 - 2) c8)).toList).setCells (w.heap.size+1) 0 (#[Value.int .i64 0,.int .i64 0,.slice a9 0 c9]:Array Value).toList)) :=
  (Keeps.setCells (w:=W9) (w1:={ W9 with drawn:=W9.drawn+1 }) ⟨rfl,rfl,rfl,Nat.le_refl _,fun _ _ _=>rfl⟩ _ 0 _ (.inl (.inl rfl))).setCells _ 0 _ (.inl (.inr rfl))
 generalize ((({ W9 with drawn:=W9.drawn+1 } : World).setCells w.heap.size 0 (msgC 3 (x:Int) (y:Int) (.slice a8 (n - 19 - 2) c8)).toList).setCells (w.heap.size+1) 0 (#[Value.int .i64 0,.int .i64 0,.slice a9 0 c9]:Array Value).toList)=WE at *
 go_wp2_with fail
 refine bodyPost_ret (v:=.tuple #[.agg (msgC 3 (x:Int) (y:Int) (.slice a8 (n - 19 - 2) c8)),.agg #[.int .i64 0,.int .i64 0,.slice a9 0 c9]]) (res_cells2 Tryz.results10 _ WE w.heap.size (w.heap.size+1) (msgC 3 (x:Int) (y:Int) (.slice a8 (n - 19 - 2) c8)) _ rfl rfl HRM.out HRN.out Tryz.underlying40 rfl infoM Tryz.underlying38 rfl infoN) rfl ?_
 exact ⟨⟨a8,c8,⟨a9,c9,rfl⟩,own_low (own_keep HOW9.out HKe.out (fun x hx=>by have:=HD.out.hY; have:=HD.out.hs; omega)) (by have:=HD.out.bel.size; omega)⟩,B9.out.trans (HKe.out.below _ B9.out.size (fun x e=>by omega))⟩
end
theorem rnoteof_any (c s:Nat)(a:Option Addr)(cap:Nat)(d:List Nat)(w:World)(hl:d.length≤50000)(h:BRd w a d) :
  Calls Tryz.prog 27 #[.int .i64 (c:Int),.int .i64 (s:Int),.slice a d.length cap] w fun e w'=>∃ u,e=.returned u∧NoteIs w.heap.size w' u c s d∧Below w.heap.size w w':=by
 refine (note_any c s a cap d w (by omega) h).mono ?_
 rintro e w' ⟨a9,c9,rfl,ho,hb⟩
 exact ⟨_,rfl,⟨a9,c9,rfl,ho⟩,hb⟩
theorem rmsg_end (w W:World)(hW:MW w W)(k s:Nat)(a:Option Addr)(cap n:Nat)(d:List Nat)(hn:d.length=n)(hl:n≤50000)(h:BRd W a d) :
  Calls Tryz.prog 27 #[.int .i64 (k:Int),.int .i64 (s:Int),.slice a n cap] W fun e w3=>∃ a9 c9 W5,e=.returned (.agg #[.int .i64 (k:Int),.int .i64 (s:Int),.slice a9 n c9])∧Hid ((Instr.storeAt 40 (.pointer (some ⟨w.heap.size,0,none⟩)) (.agg zM)).run Tryz.prog w3=.ok () W5)∧Hid (NtBox W5 (w.heap.size+1))∧Hid (MEnd w W5 k s d a9 n c9):=by
 subst hn
 refine (rnoteof_any k s a cap d W hl h).mono ?_
 rintro e w3 ⟨u,rfl,⟨a9,c9,rfl,ho⟩,hb⟩
 have h3:=hW.later hb
 have h5:(w3.setCells w.heap.size 0 zM.toList).heap[w.heap.size]?=some (.cells zM 40 (0,0)):=bx_put h3.bM rfl
 have h6:(w3.setCells w.heap.size 0 zM.toList).heap[w.heap.size+1]?=some (.cells #[.int .i64 0,.int .i64 0,.slice none 0 0] 38 (0,0)):=by rw [heap_sets (by omega)]; exact h3.bN
 have hk:Keeps (fun x=>x=w.heap.size∨x=w.heap.size+1) w3 ((w3.setCells w.heap.size 0 zM.toList).setCells (w.heap.size+1) 0 [.int .i64 (k:Int),.int .i64 (s:Int),.slice a9 d.length c9]):=((Keeps.refl _ _).setCells _ 0 _ (.inl (.inl rfl))).setCells _ 0 _ (.inl (.inr rfl))
 have hsz:w.heap.size+1 < W.heap.size:=(Array.getElem?_eq_some_iff.1 hW.bN).1
 refine ⟨a9,c9,_,rfl,run_storeM h3.bM rfl MC.zero,nt_ofM h6,⟨bx_apart (range_of h5) (by omega),?_,?_,?_⟩⟩
 ·exact bx_set (C0:=#[.int .i64 0,.int .i64 0,.slice none 0 0]) (C:=#[.int .i64 (k:Int),.int .i64 (s:Int),.slice a9 d.length c9]) h6 (by simp)
 ·exact own_low (own_keep ho hk (fun x hx=>by omega)) (by omega)
 ·exact h3.bel.trans (hk.below _ h3.bel.size (fun x e=>by omega))
section
variable {a:Act}{w:World}{dst:Option Tmp}{ty:TypeId}{pos:String}{after:Array Edge}{K:Act→World→Prop}{Q:Exit→Act→World→Prop}{ρ:Operand→Value}
theorem run_rnote (x y z:Operand)(u v t:Value)(hf:ρ (.func 27)=.func (.func 27) #[] #[])(hx:ρ x=u)(hy:ρ y=v)(hz:ρ z=t) :
  (execOp ρ { dst:=dst,op:=.call { callee:=.value (.func 27),args:=#[x,y,z],argTypes:=#[3,3,22] },type:=ty,pos:=pos,after:=after,guard:=none }).run Tryz.prog w=.ok (.enter 27 #[u,v,t]) w:=by
 unfold execOp
 simp [resolve,invoke,hf,hx,hy,hz,go_sem]
theorem call_rnote (x y z:Operand)(u v t:Value)(hx:a.eval x=u)(hy:a.eval y=v)(hz:a.eval z=t)(h:Calls Tryz.prog 27 #[u,v,t] w fun e w'=>∃ r,e=.returned r∧K (a.put dst r) w') :
  Oper.wp Tryz.prog { dst:=dst,op:=.call { callee:=.value (.func 27),args:=#[x,y,z],argTypes:=#[3,3,22] },type:=ty,pos:=pos,after:=after,guard:=none } a w K Q:=by
 unfold Oper.wp
 rw [run_rnote (ρ:=a.eval) x y z u v t rfl hx hy hz]
 refine Calls.mono h ?_
 rintro _ w' ⟨r,rfl,hk⟩
 exact hk
end
section
variable {ops:Array Oper}{Q:Exit→Act→World→Prop}{id:Nat}
set_option maxHeartbeats 1600000 in
/-- 'm, in := api.Msg{Kind: int(b[18])}, b[19:]'. -/
theorem rm_region (b:Act)(w1:World)(g o n c kd:Nat)
  (o0:opk ops 0 (some 39) (.move (.tmp 0)))
  (o1:opk ops 1 (some 40) (.indexAddr 22 (.tmp 39) (.const (.int .i64 18))))
  (o2:opk ops 2 (some 41) (.load 5 (.tmp 40)))
  (o3:opk ops 3 (some 42) (.convert 5 3 (.tmp 41)))
  (o4:opk ops 4 (some 43) (.build 40 #[(0,.tmp 42)]))
  (o5:opk ops 5 (some 44) (.move (.tmp 0)))
  (o6:opk ops 6 (some 45) (.slice 22 (.tmp 44) (some (.const (.int .i64 19))) none none))
  (o7:opk ops 7 (some 6) (.alloc 40))
  (o8:opk ops 8 none (.store 40 (.tmp 6) (.tmp 43)))
  (o9:opk ops 9 (some 7) (.assign (.tmp 45)))
  (hsz:ops.size=10) (hns:Region.noSelect ops=true)
  (t0:tk ops #[false,false,false,false,false,false,false,false,false,false] 0=true)
  (t1:tk ops #[true,false,false,false,false,false,false,false,false,false] 1=true)
  (t2:tk ops #[true,true,false,false,false,false,false,false,false,false] 2=true)
  (t3:tk ops #[true,true,true,false,false,false,false,false,false,false] 3=true)
  (t4:tk ops #[true,true,true,true,false,false,false,false,false,false] 4=true)
  (t5:tk ops #[true,true,true,true,true,false,false,false,false,false] 5=true)
  (t6:tk ops #[true,true,true,true,true,true,false,false,false,false] 6=true)
  (r7:Region.ready .any ops #[true,true,true,true,true,true,true,false,false,false]=[7]) (r8:Region.ready .any ops #[true,true,true,true,true,true,true,true,false,false]=[8])
  (r9:Region.ready .any ops #[true,true,true,true,true,true,true,true,true,false]=[9]) (rE:Region.ready .any ops #[true,true,true,true,true,true,true,true,true,true]=[])
  (hb:b.tmps.size=247) (h0:b.tmps[0]?=some (.slice (some ⟨g,o,none⟩) n c)) (hn:19≤n) (hl:n≤100000) (hkd:kd < 256) (h18:w1.cell? ⟨g,o+18,none⟩=some (.int .u8 (kd:Int)))
  (fin:∀ a W6,Fr [39,40,41,42,43,44,45,6,7] b a→a.tmps[6]?=some (.pointer (some ⟨w1.heap.size,0,none⟩))→a.tmps[7]?=some (.slice (if c=19 then some ⟨g,o,none⟩ else some ⟨g,o+19,none⟩) (n - 19) (c - 19))→W6.heap[w1.heap.size]?=some (.cells (msgC (kd:Int) 0 0 (.slice none 0 0)) 40 (0,0))→Below w1.heap.size w1 W6→Q .normal a W6) :
  (Code.region id ops true).wp Tryz.prog Q b w1:=by
 obtain ⟨a0,p0,e0,h0'⟩:=o0
 obtain ⟨a1,p1,e1,h1'⟩:=o1
 obtain ⟨a2,p2,e2,h2'⟩:=o2
 obtain ⟨a3,p3,e3,h3'⟩:=o3
 obtain ⟨a4,p4,e4,h4'⟩:=o4
 obtain ⟨a5,p5,e5,h5'⟩:=o5
 obtain ⟨a6,p6,e6,h6'⟩:=o6
 obtain ⟨a7,p7,e7,h7'⟩:=o7
 obtain ⟨a8,p8,e8,h8'⟩:=o8
 obtain ⟨a9,p9,e9,h9'⟩:=o9
 have hg:=World.block_lt_of_cell? w1 _ h18
 simp only at hg
 have hn18:(18:Int) < (n:Int):=by omega
 refine wp_region_noPanic ?_
 refine wp_region_held (S:=fun W=>Below w1.heap.size w1 W) (by kernel_rfl) ?_
 rw [hsz]
 have hdr:Below w1.heap.size w1 { w1 with drawn:=w1.drawn+1 }:=(Below.refl _ w1).drew
 obtain ⟨X7,hX7⟩:∃ X7,X7=({ w1 with drawn:=w1.drawn+1 } : World).alloc (.cells zM 40):=⟨_,rfl⟩
 have hb7:Below w1.heap.size w1 X7:=by rw [hX7]; exact hdr.alloc (Nat.le_refl _) _
 have bx:X7.heap[w1.heap.size]?=some (.cells zM 40 (0,0)):=by rw [hX7]; exact heap_alloc_new ({ w1 with drawn:=w1.drawn+1 } : World) _
 have f0:Fr [39,40,41,42,43,44,45,6,7] b b:=Fr.refl _ _
 show wpAnyH Tryz.prog .any ops (NoPanic Q) _ (9+1) #[false,false,false,false,false,false,false,false,false,false] _ _
 refine take_slot h0' rfl rfl hns (tk1 t0) (tk2 t0) (v:=(.slice (some ⟨g,o,none⟩) n c)) (fun _ _ _ _ h=>h) (fun W _=>op_move _ W _ _ _ rfl (slot_eval (f0.slot (by decide) h0))) hdr ?_
 obtain ⟨A1,hA1⟩:∃ Z,Z=b.put (some 39) (.slice (some ⟨g,o,none⟩) n c):=⟨_,rfl⟩
 rw [← hA1]
 have f1:Fr [39,40,41,42,43,44,45,6,7] b A1:=by rw [hA1]; exact f0.put (by decide) _
 have g1_29:A1.tmps[39]?=some (.slice (some ⟨g,o,none⟩) n c):=by rw [hA1]; exact slot_same _ (by rw [f0.size,hb]; decide)
 clear hA1
 show wpAnyH Tryz.prog .any ops (NoPanic Q) _ (8+1) #[true,false,false,false,false,false,false,false,false,false] _ _
 refine take_slot h1' rfl rfl hns (tk1 t1) (tk2 t1) (v:=(.pointer (some ⟨g,o+18,none⟩))) (fun _ _ _ _ h=>h) (fun W _=>by
  have q:=slot_eval g1_29
  unfold execOp
  simp only [q]
  simp [go_sem,hn18]) hdr ?_
 obtain ⟨A2,hA2⟩:∃ Z,Z=A1.put (some 40) (.pointer (some ⟨g,o+18,none⟩)):=⟨_,rfl⟩
 rw [← hA2]
 have f2:Fr [39,40,41,42,43,44,45,6,7] b A2:=by rw [hA2]; exact f1.put (by decide) _
 have g2_29:A2.tmps[39]?=some (.slice (some ⟨g,o,none⟩) n c):=by rw [hA2,slot_put _ (by decide)]; exact g1_29
 have g2_30:A2.tmps[40]?=some (.pointer (some ⟨g,o+18,none⟩)):=by rw [hA2]; exact slot_same _ (by rw [f1.size,hb]; decide)
 clear hA2
 clear g2_29
 show wpAnyH Tryz.prog .any ops (NoPanic Q) _ (7+1) #[true,true,false,false,false,false,false,false,false,false] _ _
 refine take_slot h2' rfl rfl hns (tk1 t2) (tk2 t2) (v:=(.int .u8 (kd:Int))) (fun _ _ _ _ h=>h) (fun W hW=>by
  have q:=slot_eval g2_30
  have q2:W.cell? ⟨g,o+18,none⟩=some (.int .u8 (kd:Int)):=by rw [hW.cell (p:=⟨g,o+18,none⟩) hg]; exact h18
  unfold execOp
  simp only [q]
  simp [go_sem,q2]) hdr ?_
 obtain ⟨A3,hA3⟩:∃ Z,Z=A2.put (some 41) (.int .u8 (kd:Int)):=⟨_,rfl⟩
 rw [← hA3]
 have f3:Fr [39,40,41,42,43,44,45,6,7] b A3:=by rw [hA3]; exact f2.put (by decide) _
 have g3_30:A3.tmps[40]?=some (.pointer (some ⟨g,o+18,none⟩)):=by rw [hA3,slot_put _ (by decide)]; exact g2_30
 have g3_31:A3.tmps[41]?=some (.int .u8 (kd:Int)):=by rw [hA3]; exact slot_same _ (by rw [f2.size,hb]; decide)
 clear hA3
 clear g3_30
 show wpAnyH Tryz.prog .any ops (NoPanic Q) _ (6+1) #[true,true,true,false,false,false,false,false,false,false] _ _
 refine take_slot h3' rfl rfl hns (tk1 t3) (tk2 t3) (v:=(.int .i64 (kd:Int))) (fun _ _ _ _ h=>h) (fun W _=>by
  have q:=slot_eval g3_31
  unfold execOp
  simp only [q]
  simp [go_sem]
  rw [IntKind.wrap_i64]
  omega) hdr ?_
 obtain ⟨A4,hA4⟩:∃ Z,Z=A3.put (some 42) (.int .i64 (kd:Int)):=⟨_,rfl⟩
 rw [← hA4]
 have f4:Fr [39,40,41,42,43,44,45,6,7] b A4:=by rw [hA4]; exact f3.put (by decide) _
 have g4_31:A4.tmps[41]?=some (.int .u8 (kd:Int)):=by rw [hA4,slot_put _ (by decide)]; exact g3_31
 have g4_32:A4.tmps[42]?=some (.int .i64 (kd:Int)):=by rw [hA4]; exact slot_same _ (by rw [f3.size,hb]; decide)
 clear hA4
 clear g4_31
 show wpAnyH Tryz.prog .any ops (NoPanic Q) _ (5+1) #[true,true,true,true,false,false,false,false,false,false] _ _
 refine take_slot h4' rfl rfl hns (tk1 t4) (tk2 t4) (v:=(.agg (msgC (kd:Int) 0 0 (.slice none 0 0)))) (fun _ _ _ _ h=>h) (fun W _=>by
  have q:=slot_eval g4_32
  unfold execOp
  have e:(#[((0:Nat),Operand.tmp 42)].map fun (i,x)=>(i,A4.eval x))=#[(0,.int .i64 (kd:Int))]:=by simp [q]
  simp only [e,Sem.run_bind,run_buildkM,Result.andThen_ok,Sem.run_pure]) hdr ?_
 obtain ⟨A5,hA5⟩:∃ Z,Z=A4.put (some 43) (.agg (msgC (kd:Int) 0 0 (.slice none 0 0))):=⟨_,rfl⟩
 rw [← hA5]
 have f5:Fr [39,40,41,42,43,44,45,6,7] b A5:=by rw [hA5]; exact f4.put (by decide) _
 have g5_32:A5.tmps[42]?=some (.int .i64 (kd:Int)):=by rw [hA5,slot_put _ (by decide)]; exact g4_32
 have g5_33:A5.tmps[43]?=some (.agg (msgC (kd:Int) 0 0 (.slice none 0 0))):=by rw [hA5]; exact slot_same _ (by rw [f4.size,hb]; decide)
 clear hA5
 clear g5_32
 show wpAnyH Tryz.prog .any ops (NoPanic Q) _ (4+1) #[true,true,true,true,true,false,false,false,false,false] _ _
 refine take_slot h5' rfl rfl hns (tk1 t5) (tk2 t5) (v:=(.slice (some ⟨g,o,none⟩) n c)) (fun _ _ _ _ h=>h) (fun W _=>op_move _ W _ _ _ rfl (slot_eval (f5.slot (by decide) h0))) hdr ?_
 obtain ⟨A6,hA6⟩:∃ Z,Z=A5.put (some 44) (.slice (some ⟨g,o,none⟩) n c):=⟨_,rfl⟩
 rw [← hA6]
 have f6:Fr [39,40,41,42,43,44,45,6,7] b A6:=by rw [hA6]; exact f5.put (by decide) _
 have g6_33:A6.tmps[43]?=some (.agg (msgC (kd:Int) 0 0 (.slice none 0 0))):=by rw [hA6,slot_put _ (by decide)]; exact g5_33
 have g6_34:A6.tmps[44]?=some (.slice (some ⟨g,o,none⟩) n c):=by rw [hA6]; exact slot_same _ (by rw [f5.size,hb]; decide)
 clear hA6
 show wpAnyH Tryz.prog .any ops (NoPanic Q) _ (3+1) #[true,true,true,true,true,true,false,false,false,false] _ _
 refine take_slot h6' rfl rfl hns (tk1 t6) (tk2 t6) (v:=(.slice (if c=19 then some ⟨g,o,none⟩ else some ⟨g,o+19,none⟩) (n - 19) (c - 19))) (fun _ _ _ _ h=>h) (fun W _=>by
  have q:=slot_eval g6_34
  unfold execOp
  simp only [q]
  by_cases hc19:c=19
  ·simp [go_sem,hc19]
   omega
  ·simp [go_sem,hc19]
   omega) hdr ?_
 obtain ⟨A7,hA7⟩:∃ Z,Z=A6.put (some 45) (.slice (if c=19 then some ⟨g,o,none⟩ else some ⟨g,o+19,none⟩) (n - 19) (c - 19)):=⟨_,rfl⟩
 rw [← hA7]
 have f7:Fr [39,40,41,42,43,44,45,6,7] b A7:=by rw [hA7]; exact f6.put (by decide) _
 have g7_33:A7.tmps[43]?=some (.agg (msgC (kd:Int) 0 0 (.slice none 0 0))):=by rw [hA7,slot_put _ (by decide)]; exact g6_33
 have g7_34:A7.tmps[44]?=some (.slice (some ⟨g,o,none⟩) n c):=by rw [hA7,slot_put _ (by decide)]; exact g6_34
 have g7_35:A7.tmps[45]?=some (.slice (if c=19 then some ⟨g,o,none⟩ else some ⟨g,o+19,none⟩) (n - 19) (c - 19)):=by rw [hA7]; exact slot_same _ (by rw [f6.size,hb]; decide)
 clear hA7
 clear g7_34
 show wpAnyH Tryz.prog .any ops (NoPanic Q) _ (2+1) #[true,true,true,true,true,true,true,false,false,false] _ _
 refine wpAnyH_all r7 (by simp) fun i hi=>?_
 obtain rfl:i=7:=by simpa using hi
 refine op_plain h7' rfl (wp_of_run' (w':=X7) (v:=.pointer (some ⟨w1.heap.size,0,none⟩)) (by
  unfold execOp
  simp only [Sem.run_bind,run_allocM,Result.andThen_ok,Sem.run_pure]
  rw [hX7]) ?_)
 refine ⟨hb7,?_⟩
 show wpAnyH Tryz.prog .any ops (NoPanic Q) _ 2 #[true,true,true,true,true,true,true,true,false,false] (A7.put (some 6) (.pointer (some ⟨w1.heap.size,0,none⟩))) _
 obtain ⟨A8,hA8⟩:∃ Z,Z=A7.put (some 6) (.pointer (some ⟨w1.heap.size,0,none⟩)):=⟨_,rfl⟩
 rw [← hA8]
 have f8:Fr [39,40,41,42,43,44,45,6,7] b A8:=by rw [hA8]; exact f7.put (by decide) _
 have g8_33:A8.tmps[43]?=some (.agg (msgC (kd:Int) 0 0 (.slice none 0 0))):=by rw [hA8,slot_put _ (by decide)]; exact g7_33
 have g8_35:A8.tmps[45]?=some (.slice (if c=19 then some ⟨g,o,none⟩ else some ⟨g,o+19,none⟩) (n - 19) (c - 19)):=by rw [hA8,slot_put _ (by decide)]; exact g7_35
 have g8_6:A8.tmps[6]?=some (.pointer (some ⟨w1.heap.size,0,none⟩)):=by rw [hA8]; exact slot_same _ (by rw [f7.size,hb]; decide)
 clear hA8
 show wpAnyH Tryz.prog .any ops (NoPanic Q) _ (1+1) #[true,true,true,true,true,true,true,true,false,false] _ _
 refine wpAnyH_all r8 (by simp) fun i hi=>?_
 obtain rfl:i=8:=by simpa using hi
 refine op_plain h8' rfl ?_
 unfold Oper.wp execOp
 simp only [slot_eval g8_6,slot_eval g8_33,Sem.run_bind,run_storeM bx rfl (MC.msg (kd:Int) 0 0 none 0 0),Result.andThen_ok,Sem.run_pure]
 have hb8:Below w1.heap.size w1 (X7.setCells w1.heap.size 0 (msgC (kd:Int) 0 0 (.slice none 0 0)).toList):=hb7.trans (((Keeps.refl (fun x=>x=w1.heap.size) _).setCells w1.heap.size 0 _ (.inl rfl)).below w1.heap.size hb7.size (fun x e=>by omega))
 refine ⟨hb8,?_⟩
 show wpAnyH Tryz.prog .any ops (NoPanic Q) _ 1 #[true,true,true,true,true,true,true,true,true,false] A8 _
 show wpAnyH Tryz.prog .any ops (NoPanic Q) _ (0+1) #[true,true,true,true,true,true,true,true,true,false] _ _
 refine wpAnyH_all r9 (by simp) fun i hi=>?_
 obtain rfl:i=9:=by simpa using hi
 refine op_plain h9' rfl (wp_of_run' (v:=(.slice (if c=19 then some ⟨g,o,none⟩ else some ⟨g,o+19,none⟩) (n - 19) (c - 19))) (by
  have q:=slot_eval g8_35
  unfold execOp
  simp only [q,Sem.run_pure]
  rfl) ?_)
 refine ⟨hb8,?_⟩
 show wpAnyH Tryz.prog .any ops (NoPanic Q) _ 0 #[true,true,true,true,true,true,true,true,true,true] (A8.put (some 7) (.slice (if c=19 then some ⟨g,o,none⟩ else some ⟨g,o+19,none⟩) (n - 19) (c - 19))) _
 obtain ⟨A9,hA9⟩:∃ Z,Z=A8.put (some 7) (.slice (if c=19 then some ⟨g,o,none⟩ else some ⟨g,o+19,none⟩) (n - 19) (c - 19)):=⟨_,rfl⟩
 rw [← hA9]
 have f9:Fr [39,40,41,42,43,44,45,6,7] b A9:=by rw [hA9]; exact f8.put (by decide) _
 have g9_33:A9.tmps[43]?=some (.agg (msgC (kd:Int) 0 0 (.slice none 0 0))):=by rw [hA9,slot_put _ (by decide)]; exact g8_33
 have g9_35:A9.tmps[45]?=some (.slice (if c=19 then some ⟨g,o,none⟩ else some ⟨g,o+19,none⟩) (n - 19) (c - 19)):=by rw [hA9,slot_put _ (by decide)]; exact g8_35
 have g9_6:A9.tmps[6]?=some (.pointer (some ⟨w1.heap.size,0,none⟩)):=by rw [hA9,slot_put _ (by decide)]; exact g8_6
 have g9_7:A9.tmps[7]?=some (.slice (if c=19 then some ⟨g,o,none⟩ else some ⟨g,o+19,none⟩) (n - 19) (c - 19)):=by rw [hA9]; exact slot_same _ (by rw [f8.size,hb]; decide)
 clear hA9
 exact wpAnyH_done rE (NoPanic.normal (fin _ _ f9 g9_6 g9_7 (bx_put bx rfl) hb8)) _
set_option maxHeartbeats 1600000 in
theorem rn_region (b:Act)(w1:World)(Y g o n c x y:Nat)(d:List Nat)
  (o0:opk ops 0 (some 233) (.move (.tmp 7)))
  (o1:opk ops 1 (some 234) (.indexAddr 22 (.tmp 233) (.const (.int .i64 0))))
  (o2:opk ops 2 (some 235) (.load 5 (.tmp 234)))
  (o3:opk ops 3 (some 236) (.convert 5 3 (.tmp 235)))
  (o4:opk ops 4 (some 237) (.move (.tmp 7)))
  (o5:opk ops 5 (some 238) (.indexAddr 22 (.tmp 237) (.const (.int .i64 1))))
  (o6:opk ops 6 (some 239) (.load 5 (.tmp 238)))
  (o7:opk ops 7 (some 240) (.convert 5 3 (.tmp 239)))
  (o8:opk ops 8 (some 241) (.move (.tmp 7)))
  (o9:opk ops 9 (some 242) (.slice 22 (.tmp 241) (some (.const (.int .i64 2))) none none))
  (o10:opk ops 10 (some 243) (.call { callee:=.value (.func 27),args:=#[.tmp 236,.tmp 240,.tmp 242],argTypes:=#[3,3,22] }))
  (o11:opk ops 11 (some 244) (.fieldAddr 40 (.tmp 6) 3))
  (o12:opk ops 12 none (.store 38 (.tmp 244) (.tmp 243)))
  (hsz:ops.size=13) (hns:Region.noSelect ops=true)
  (t0:tk ops #[false,false,false,false,false,false,false,false,false,false,false,false,false] 0=true)
  (t1:tk ops #[true,false,false,false,false,false,false,false,false,false,false,false,false] 1=true)
  (t2:tk ops #[true,true,false,false,false,false,false,false,false,false,false,false,false] 2=true)
  (t3:tk ops #[true,true,true,false,false,false,false,false,false,false,false,false,false] 3=true)
  (t4:tk ops #[true,true,true,true,false,false,false,false,false,false,false,false,false] 4=true)
  (t5:tk ops #[true,true,true,true,true,false,false,false,false,false,false,false,false] 5=true)
  (t6:tk ops #[true,true,true,true,true,true,false,false,false,false,false,false,false] 6=true)
  (t7:tk ops #[true,true,true,true,true,true,true,false,false,false,false,false,false] 7=true)
  (t8:tk ops #[true,true,true,true,true,true,true,true,false,false,false,false,false] 8=true)
  (t9:tk ops #[true,true,true,true,true,true,true,true,true,false,false,false,false] 9=true)
  (t11:tk ops #[true,true,true,true,true,true,true,true,true,true,true,false,false] 11=true)
  (r10:Region.ready .any ops #[true,true,true,true,true,true,true,true,true,true,false,false,false]=[10]) (r12:Region.ready .any ops #[true,true,true,true,true,true,true,true,true,true,true,true,false]=[12]) (rE:Region.ready .any ops #[true,true,true,true,true,true,true,true,true,true,true,true,true]=[])
  (hb:b.tmps.size=247) (s7:b.tmps[7]?=some (.slice (some ⟨g,o,none⟩) n c)) (s6:b.tmps[6]?=some (.pointer (some ⟨Y,0,none⟩)))
  (hn:2≤n) (hl:n≤5000) (hx:x < 256) (hy:y < 256) (cx:w1.cell? ⟨g,o,none⟩=some (.int .u8 (x:Int))) (cy:w1.cell? ⟨g,o+1,none⟩=some (.int .u8 (y:Int)))
  (hgY:g≠Y) (bY:w1.heap[Y]?=some (.cells (msgC 3 0 0 (.slice none 0 0)) 40 (0,0)))
  (hd:d.length=n - 2) (hrd:∀ X,Below w1.heap.size w1 X→BRd X (if c=2 then some ⟨g,o,none⟩ else some ⟨g,o+2,none⟩) d)
  (fin:∀ a W8 W9 a9 c9,Fr [233,234,235,236,237,238,239,240,241,242,243,244] b a→Below w1.heap.size w1 W8→W8.ownsRow w1.heap.size 5 1 (.slice a9 (n - 2) c9) (n - 2) (bcells d)→Keeps (fun k=>k=Y) W8 W9→W9.heap[Y]?=some (.cells (msgC 3 (x:Int) (y:Int) (.slice a9 (n - 2) c9)) 40 (0,0))→W9.heap.size=W8.heap.size→Q .normal a W9) :
  (Code.region id ops true).wp Tryz.prog Q b w1:=by
 obtain ⟨a0,p0,e0,h0'⟩:=o0
 obtain ⟨a1,p1,e1,h1'⟩:=o1
 obtain ⟨a2,p2,e2,h2'⟩:=o2
 obtain ⟨a3,p3,e3,h3'⟩:=o3
 obtain ⟨a4,p4,e4,h4'⟩:=o4
 obtain ⟨a5,p5,e5,h5'⟩:=o5
 obtain ⟨a6,p6,e6,h6'⟩:=o6
 obtain ⟨a7,p7,e7,h7'⟩:=o7
 obtain ⟨a8,p8,e8,h8'⟩:=o8
 obtain ⟨a9,p9,e9,h9'⟩:=o9
 obtain ⟨a10,p10,e10,h10'⟩:=o10
 obtain ⟨a11,p11,e11,h11'⟩:=o11
 obtain ⟨a12,p12,e12,h12'⟩:=o12
 have zg:=World.block_lt_of_cell? w1 _ cx
 simp only at zg
 have hn0:¬ n=0:=by omega
 have hn1:(1:Int) < (n:Int):=by omega
 have hn2:(2:Int)≤(n:Int):=by omega
 refine wp_region_noPanic ?_
 refine wp_region_held (S:=fun W=>Keeps (fun k=>k=Y) w1 W) (by kernel_rfl) ?_
 rw [hsz]
 have hdr:Keeps (fun k=>k=Y) w1 { w1 with drawn:=w1.drawn+1 }:=⟨rfl,rfl,rfl,Nat.le_refl _,fun _ _ _=>rfl⟩
 have f0:Fr [233,234,235,236,237,238,239,240,241,242,243,244] b b:=Fr.refl _ _
 show wpAnyH Tryz.prog .any ops (NoPanic Q) _ (12+1) #[false,false,false,false,false,false,false,false,false,false,false,false,false] _ _
 refine take_slot h0' rfl rfl hns (tk1 t0) (tk2 t0) (v:=(.slice (some ⟨g,o,none⟩) n c)) (fun _ _ _ _ h=>h) (fun W _=>op_move _ W _ _ _ rfl (slot_eval (f0.slot (by decide) s7))) hdr ?_
 obtain ⟨A1,hA1⟩:∃ Z,Z=b.put (some 233) (.slice (some ⟨g,o,none⟩) n c):=⟨_,rfl⟩
 rw [← hA1]
 have f1:Fr [233,234,235,236,237,238,239,240,241,242,243,244] b A1:=by rw [hA1]; exact f0.put (by decide) _
 have g1_56:A1.tmps[233]?=some (.slice (some ⟨g,o,none⟩) n c):=by rw [hA1]; exact slot_same _ (by rw [f0.size,hb]; decide)
 clear hA1
 show wpAnyH Tryz.prog .any ops (NoPanic Q) _ (11+1) #[true,false,false,false,false,false,false,false,false,false,false,false,false] _ _
 refine take_slot h1' rfl rfl hns (tk1 t1) (tk2 t1) (v:=(.pointer (some ⟨g,o,none⟩))) (fun _ _ _ _ h=>h) (fun W _=>by
  have q:=slot_eval g1_56
  unfold execOp
  simp only [q]
  simp [go_sem,hn0]) hdr ?_
 obtain ⟨A2,hA2⟩:∃ Z,Z=A1.put (some 234) (.pointer (some ⟨g,o,none⟩)):=⟨_,rfl⟩
 rw [← hA2]
 have f2:Fr [233,234,235,236,237,238,239,240,241,242,243,244] b A2:=by rw [hA2]; exact f1.put (by decide) _
 have g2_57:A2.tmps[234]?=some (.pointer (some ⟨g,o,none⟩)):=by rw [hA2]; exact slot_same _ (by rw [f1.size,hb]; decide)
 clear hA2
 show wpAnyH Tryz.prog .any ops (NoPanic Q) _ (10+1) #[true,true,false,false,false,false,false,false,false,false,false,false,false] _ _
 refine take_slot h2' rfl rfl hns (tk1 t2) (tk2 t2) (v:=(.int .u8 (x:Int))) (fun _ _ _ _ h=>h) (fun W hW=>by
  have q:=slot_eval g2_57
  have q2:W.cell? ⟨g,o,none⟩=some (.int .u8 (x:Int)):=by rw [hW.cell ⟨g,o,none⟩ zg hgY]; exact cx
  unfold execOp
  simp only [q]
  simp [go_sem,q2]) hdr ?_
 obtain ⟨A3,hA3⟩:∃ Z,Z=A2.put (some 235) (.int .u8 (x:Int)):=⟨_,rfl⟩
 rw [← hA3]
 have f3:Fr [233,234,235,236,237,238,239,240,241,242,243,244] b A3:=by rw [hA3]; exact f2.put (by decide) _
 have g3_58:A3.tmps[235]?=some (.int .u8 (x:Int)):=by rw [hA3]; exact slot_same _ (by rw [f2.size,hb]; decide)
 clear hA3
 show wpAnyH Tryz.prog .any ops (NoPanic Q) _ (9+1) #[true,true,true,false,false,false,false,false,false,false,false,false,false] _ _
 refine take_slot h3' rfl rfl hns (tk1 t3) (tk2 t3) (v:=(.int .i64 (x:Int))) (fun _ _ _ _ h=>h) (fun W _=>by
  have q:=slot_eval g3_58
  unfold execOp
  simp only [q]
  simp [go_sem]
  rw [IntKind.wrap_i64]
  omega) hdr ?_
 obtain ⟨A4,hA4⟩:∃ Z,Z=A3.put (some 236) (.int .i64 (x:Int)):=⟨_,rfl⟩
 rw [← hA4]
 have f4:Fr [233,234,235,236,237,238,239,240,241,242,243,244] b A4:=by rw [hA4]; exact f3.put (by decide) _
 have g4_59:A4.tmps[236]?=some (.int .i64 (x:Int)):=by rw [hA4]; exact slot_same _ (by rw [f3.size,hb]; decide)
 clear hA4
 show wpAnyH Tryz.prog .any ops (NoPanic Q) _ (8+1) #[true,true,true,true,false,false,false,false,false,false,false,false,false] _ _
 refine take_slot h4' rfl rfl hns (tk1 t4) (tk2 t4) (v:=(.slice (some ⟨g,o,none⟩) n c)) (fun _ _ _ _ h=>h) (fun W _=>op_move _ W _ _ _ rfl (slot_eval (f4.slot (by decide) s7))) hdr ?_
 obtain ⟨A5,hA5⟩:∃ Z,Z=A4.put (some 237) (.slice (some ⟨g,o,none⟩) n c):=⟨_,rfl⟩
 rw [← hA5]
 have f5:Fr [233,234,235,236,237,238,239,240,241,242,243,244] b A5:=by rw [hA5]; exact f4.put (by decide) _
 have g5_59:A5.tmps[236]?=some (.int .i64 (x:Int)):=by rw [hA5,slot_put _ (by decide)]; exact g4_59
 have g5_60:A5.tmps[237]?=some (.slice (some ⟨g,o,none⟩) n c):=by rw [hA5]; exact slot_same _ (by rw [f4.size,hb]; decide)
 clear hA5
 show wpAnyH Tryz.prog .any ops (NoPanic Q) _ (7+1) #[true,true,true,true,true,false,false,false,false,false,false,false,false] _ _
 refine take_slot h5' rfl rfl hns (tk1 t5) (tk2 t5) (v:=(.pointer (some ⟨g,o+1,none⟩))) (fun _ _ _ _ h=>h) (fun W _=>by
  have q:=slot_eval g5_60
  unfold execOp
  simp only [q]
  simp [go_sem,hn1]) hdr ?_
 obtain ⟨A6,hA6⟩:∃ Z,Z=A5.put (some 238) (.pointer (some ⟨g,o+1,none⟩)):=⟨_,rfl⟩
 rw [← hA6]
 have f6:Fr [233,234,235,236,237,238,239,240,241,242,243,244] b A6:=by rw [hA6]; exact f5.put (by decide) _
 have g6_59:A6.tmps[236]?=some (.int .i64 (x:Int)):=by rw [hA6,slot_put _ (by decide)]; exact g5_59
 have g6_61:A6.tmps[238]?=some (.pointer (some ⟨g,o+1,none⟩)):=by rw [hA6]; exact slot_same _ (by rw [f5.size,hb]; decide)
 clear hA6
 show wpAnyH Tryz.prog .any ops (NoPanic Q) _ (6+1) #[true,true,true,true,true,true,false,false,false,false,false,false,false] _ _
 refine take_slot h6' rfl rfl hns (tk1 t6) (tk2 t6) (v:=(.int .u8 (y:Int))) (fun _ _ _ _ h=>h) (fun W hW=>by
  have q:=slot_eval g6_61
  have q2:W.cell? ⟨g,o+1,none⟩=some (.int .u8 (y:Int)):=by rw [hW.cell ⟨g,o+1,none⟩ zg hgY]; exact cy
  unfold execOp
  simp only [q]
  simp [go_sem,q2]) hdr ?_
 obtain ⟨A7,hA7⟩:∃ Z,Z=A6.put (some 239) (.int .u8 (y:Int)):=⟨_,rfl⟩
 rw [← hA7]
 have f7:Fr [233,234,235,236,237,238,239,240,241,242,243,244] b A7:=by rw [hA7]; exact f6.put (by decide) _
 have g7_59:A7.tmps[236]?=some (.int .i64 (x:Int)):=by rw [hA7,slot_put _ (by decide)]; exact g6_59
 have g7_62:A7.tmps[239]?=some (.int .u8 (y:Int)):=by rw [hA7]; exact slot_same _ (by rw [f6.size,hb]; decide)
 clear hA7
 show wpAnyH Tryz.prog .any ops (NoPanic Q) _ (5+1) #[true,true,true,true,true,true,true,false,false,false,false,false,false] _ _
 refine take_slot h7' rfl rfl hns (tk1 t7) (tk2 t7) (v:=(.int .i64 (y:Int))) (fun _ _ _ _ h=>h) (fun W _=>by
  have q:=slot_eval g7_62
  unfold execOp
  simp only [q]
  simp [go_sem]
  rw [IntKind.wrap_i64]
  omega) hdr ?_
 obtain ⟨A8,hA8⟩:∃ Z,Z=A7.put (some 240) (.int .i64 (y:Int)):=⟨_,rfl⟩
 rw [← hA8]
 have f8:Fr [233,234,235,236,237,238,239,240,241,242,243,244] b A8:=by rw [hA8]; exact f7.put (by decide) _
 have g8_59:A8.tmps[236]?=some (.int .i64 (x:Int)):=by rw [hA8,slot_put _ (by decide)]; exact g7_59
 have g8_63:A8.tmps[240]?=some (.int .i64 (y:Int)):=by rw [hA8]; exact slot_same _ (by rw [f7.size,hb]; decide)
 clear hA8
 show wpAnyH Tryz.prog .any ops (NoPanic Q) _ (4+1) #[true,true,true,true,true,true,true,true,false,false,false,false,false] _ _
 refine take_slot h8' rfl rfl hns (tk1 t8) (tk2 t8) (v:=(.slice (some ⟨g,o,none⟩) n c)) (fun _ _ _ _ h=>h) (fun W _=>op_move _ W _ _ _ rfl (slot_eval (f8.slot (by decide) s7))) hdr ?_
 obtain ⟨A9,hA9⟩:∃ Z,Z=A8.put (some 241) (.slice (some ⟨g,o,none⟩) n c):=⟨_,rfl⟩
 rw [← hA9]
 have f9:Fr [233,234,235,236,237,238,239,240,241,242,243,244] b A9:=by rw [hA9]; exact f8.put (by decide) _
 have g9_59:A9.tmps[236]?=some (.int .i64 (x:Int)):=by rw [hA9,slot_put _ (by decide)]; exact g8_59
 have g9_63:A9.tmps[240]?=some (.int .i64 (y:Int)):=by rw [hA9,slot_put _ (by decide)]; exact g8_63
 have g9_64:A9.tmps[241]?=some (.slice (some ⟨g,o,none⟩) n c):=by rw [hA9]; exact slot_same _ (by rw [f8.size,hb]; decide)
 clear hA9
 show wpAnyH Tryz.prog .any ops (NoPanic Q) _ (3+1) #[true,true,true,true,true,true,true,true,true,false,false,false,false] _ _
 refine take_slot h9' rfl rfl hns (tk1 t9) (tk2 t9) (v:=(.slice (if c=2 then some ⟨g,o,none⟩ else some ⟨g,o+2,none⟩) (n - 2) (c - 2))) (fun _ _ _ _ h=>h) (fun W _=>by
  have q:=slot_eval g9_64
  unfold execOp
  simp only [q]
  by_cases hc2:c=2
  ·simp [go_sem,hc2]
   omega
  ·simp [go_sem,hc2]
   omega) hdr ?_
 obtain ⟨A10,hA10⟩:∃ Z,Z=A9.put (some 242) (.slice (if c=2 then some ⟨g,o,none⟩ else some ⟨g,o+2,none⟩) (n - 2) (c - 2)):=⟨_,rfl⟩
 rw [← hA10]
 have f10:Fr [233,234,235,236,237,238,239,240,241,242,243,244] b A10:=by rw [hA10]; exact f9.put (by decide) _
 have g10_59:A10.tmps[236]?=some (.int .i64 (x:Int)):=by rw [hA10,slot_put _ (by decide)]; exact g9_59
 have g10_63:A10.tmps[240]?=some (.int .i64 (y:Int)):=by rw [hA10,slot_put _ (by decide)]; exact g9_63
 have g10_65:A10.tmps[242]?=some (.slice (if c=2 then some ⟨g,o,none⟩ else some ⟨g,o+2,none⟩) (n - 2) (c - 2)):=by rw [hA10]; exact slot_same _ (by rw [f9.size,hb]; decide)
 clear hA10
 show wpAnyH Tryz.prog .any ops (NoPanic Q) _ (2+1) #[true,true,true,true,true,true,true,true,true,true,false,false,false] _ _
 refine wpAnyH_all r10 (by simp) fun i hi=>?_
 obtain rfl:i=10:=by simpa using hi
 have hdb:Below w1.heap.size w1 { w1 with drawn:=w1.drawn+1 }:=(Below.refl _ w1).drew
 have KN:=rnoteof_any x y (if c=2 then some ⟨g,o,none⟩ else some ⟨g,o+2,none⟩) (c - 2) d { w1 with drawn:=w1.drawn+1 } (by omega) (hrd _ hdb)
 rw [hd] at KN
 refine op_plain h10' rfl (call_rnote (.tmp 236) (.tmp 240) (.tmp 242) (.int .i64 (x:Int)) (.int .i64 (y:Int)) _ (slot_eval g10_59) (slot_eval g10_63) (slot_eval g10_65) (KN.mono ?_))
 rintro e w8 ⟨u,rfl,⟨a9,c9,rfl,ho⟩,hb8⟩
 rw [hd] at ho ⊢
 have hbw:Below w1.heap.size w1 w8:=hdb.trans hb8
 refine ⟨_,rfl,Keeps.of_below hbw _,?_⟩
 show wpAnyH Tryz.prog .any ops (NoPanic Q) _ 2 #[true,true,true,true,true,true,true,true,true,true,true,false,false] (A10.put (some 243) (.agg #[.int .i64 (x:Int),.int .i64 (y:Int),.slice a9 (n - 2) c9])) _
 obtain ⟨A11,hA11⟩:∃ Z,Z=A10.put (some 243) (.agg #[.int .i64 (x:Int),.int .i64 (y:Int),.slice a9 (n - 2) c9]):=⟨_,rfl⟩
 rw [← hA11]
 have f11:Fr [233,234,235,236,237,238,239,240,241,242,243,244] b A11:=by rw [hA11]; exact f10.put (by decide) _
 have g11_66:A11.tmps[243]?=some (.agg #[.int .i64 (x:Int),.int .i64 (y:Int),.slice a9 (n - 2) c9]):=by rw [hA11]; exact slot_same _ (by rw [f10.size,hb]; decide)
 clear hA11
 show wpAnyH Tryz.prog .any ops (NoPanic Q) _ (1+1) #[true,true,true,true,true,true,true,true,true,true,true,false,false] _ _
 refine take_slot h11' rfl rfl hns (tk1 t11) (tk2 t11) (v:=(.pointer (some ⟨Y,22,none⟩))) (fun _ _ _ _ h=>h) (fun W _=>by
  have q:=slot_eval (f11.slot (by decide) s6)
  unfold execOp
  simp only [q]
  simp [go_sem]) (Keeps.of_below hbw _) ?_
 obtain ⟨A12,hA12⟩:∃ Z,Z=A11.put (some 244) (.pointer (some ⟨Y,22,none⟩)):=⟨_,rfl⟩
 rw [← hA12]
 have f12:Fr [233,234,235,236,237,238,239,240,241,242,243,244] b A12:=by rw [hA12]; exact f11.put (by decide) _
 have g12_66:A12.tmps[243]?=some (.agg #[.int .i64 (x:Int),.int .i64 (y:Int),.slice a9 (n - 2) c9]):=by rw [hA12,slot_put _ (by decide)]; exact g11_66
 have g12_67:A12.tmps[244]?=some (.pointer (some ⟨Y,22,none⟩)):=by rw [hA12]; exact slot_same _ (by rw [f11.size,hb]; decide)
 clear hA12
 show wpAnyH Tryz.prog .any ops (NoPanic Q) _ (0+1) #[true,true,true,true,true,true,true,true,true,true,true,true,false] _ _
 obtain ⟨W9,hst,b9,_,z9,k9⟩:=store_note (w:=w8) (Y:=Y) (k:=3) (c:=(x:Int)) (s:=(y:Int)) (a:=a9) (n:=n - 2) (cap:=c9) (by rw [hbw.block _ (Array.getElem?_eq_some_iff.1 bY).1]; exact bY)
 refine wpAnyH_all r12 (by simp) fun i hi=>?_
 obtain rfl:i=12:=by simpa using hi
 refine op_plain h12' rfl ?_
 unfold Oper.wp execOp
 simp only [slot_eval g12_67,slot_eval g12_66,Sem.run_bind,hst,Result.andThen_ok,Sem.run_pure]
 refine ⟨(Keeps.of_below hbw _).trans k9 (fun x _ e=>e),?_⟩
 show wpAnyH Tryz.prog .any ops (NoPanic Q) _ 0 #[true,true,true,true,true,true,true,true,true,true,true,true,true] A12 _
 exact wpAnyH_done rE (NoPanic.normal (fin _ w8 W9 a9 c9 f12 hbw ho k9 b9 z9)) _
end
theorem rhead_dW (a:Option Addr)(c:Nat)(bs:List Nat)(w:World)(hl:bs.length≤100000)(hcap:bs.length≤c)(h:BRd w a bs)(r:Nat×Nat×Nat×List Nat)(hr:headM bs=r) :
  Calls Tryz.prog 20 #[.slice a bs.length c] (dW w) fun e w1=>∃ a9 c9,e=.returned (.tuple #[.int .i64 (r.1:Int),.agg #[.int .i64 (r.2.1:Int),.int .i64 (r.2.2.1:Int),.slice a9 r.2.2.2.length c9]])∧Hid (w1.ownsRow (w.heap.size+2) 5 1 (.slice a9 r.2.2.2.length c9) r.2.2.2.length (bcells r.2.2.2))∧Hid (Below (w.heap.size+2) (dW w) w1):=by
 subst hr
 refine (rhead_any a c bs (dW w) hl hcap (h.below (dW_below w))).mono ?_
 rintro e w1 ⟨⟨u,rfl,a9,c9,rfl,ho⟩,hb⟩
 rw [dW_size] at ho hb
 exact ⟨a9,c9,rfl,ho,hb⟩
structure GEnd (w W W5:World) (C:Array Value):Prop where
 rM:(W5.setCells (w.heap.size+1) 0 [.int .i64 0,.int .i64 0,.slice none 0 0]).rangeAt w.heap.size 0 C.toList
 rN:(W5.setCells (w.heap.size+1) 0 [.int .i64 0,.int .i64 0,.slice none 0 0]).rangeAt (w.heap.size+1) 0 [.int .i64 0,.int .i64 0,.slice none 0 0]
 keep:Keeps (fun x=>x=w.heap.size∨x=w.heap.size+1) W (W5.setCells (w.heap.size+1) 0 [.int .i64 0,.int .i64 0,.slice none 0 0])
 bel:Below w.heap.size w (W5.setCells (w.heap.size+1) 0 [.int .i64 0,.int .i64 0,.slice none 0 0])
theorem rgood_end {w W:World}{Y:Nat}{C:Array Value} (hM:W.heap[w.heap.size]?=some (.cells zM 40 (0,0))) (hN:W.heap[w.heap.size+1]?=some (.cells #[.int .i64 0,.int .i64 0,.slice none 0 0] 38 (0,0))) (hY:W.heap[Y]?=some (.cells C 40 (0,0))) (hC:MC C) (hb:Below w.heap.size w W) :
  ∃ W5,Hid ((Instr.loadAt 40 (.pointer (some ⟨Y,0,none⟩))).run Tryz.prog W=.ok (.agg C) W)∧Hid ((Instr.storeAt 40 (.pointer (some ⟨w.heap.size,0,none⟩)) (.agg C)).run Tryz.prog W=.ok () W5)∧Hid (NtBox W5 (w.heap.size+1))∧Hid (GEnd w W W5 C):=by
 have h5:(W.setCells w.heap.size 0 C.toList).heap[w.heap.size]?=some (.cells C 40 (0,0)):=bx_put hM hC.1
 have h6:(W.setCells w.heap.size 0 C.toList).heap[w.heap.size+1]?=some (.cells #[.int .i64 0,.int .i64 0,.slice none 0 0] 38 (0,0)):=by rw [heap_sets (by omega)]; exact hN
 have hk:Keeps (fun x=>x=w.heap.size∨x=w.heap.size+1) W ((W.setCells w.heap.size 0 C.toList).setCells (w.heap.size+1) 0 [.int .i64 0,.int .i64 0,.slice none 0 0]):=((Keeps.refl _ _).setCells _ 0 _ (.inl (.inl rfl))).setCells _ 0 _ (.inl (.inr rfl))
 refine ⟨_,run_loadM (range_of hY) hC,run_storeM hM rfl hC,nt_ofM h6,⟨bx_apart (range_of h5) (by omega),?_,hk,?_⟩⟩
 ·exact bx_set (C0:=#[.int .i64 0,.int .i64 0,.slice none 0 0]) (C:=#[.int .i64 0,.int .i64 0,.slice none 0 0]) h6 (by simp)
 ·exact hb.trans (hk.below _ hb.size (fun x e=>by omega))
section
attribute [local go_sem ↓] keptM_load keptM_store keptM_alloc keptM_build
set_option maxHeartbeats 4000000 in
theorem rdec_bad (a:Option Addr)(cp n:Nat)(bs:List Nat)(w:World)(hn:bs.length=n)(hl:bs.length≤100000)(hcap:bs.length≤cp)(h:BRd w a bs)(k s:Nat)(d:List Nat)(hr:headM bs=(0,k,s,d))(hk:k≠0) :
  Calls Tryz.prog 11 #[.slice a n cp] w fun e w'=>BadIs w w' e k s d∧Below w.heap.size w w':=by
 have KH:=rhead_dW a cp bs w hl hcap h _ hr
 rw [hn] at KH
 have HK:=hide KH
 clear KH h hl hcap hr hn
 have hkz:((k:Int) != 0)=true:=by simp; omega
 simp only at HK
 unfold BadIs NoteIs
 generalize d.length=dl at *
 go_enter Tryz.func11,Tryz.ntmps11
 go_wp2_with (refine keptM_alloc_intro _ (run_allocM w) ?_)
 show Calls Tryz.prog 20 #[.slice a n cp] (dW w) _
 with_reducible refine HK.out.mono ?_
 rintro e w1 ⟨a9,c9,rfl,HO,HB⟩
 have HMb:Hid (w1.heap[w.heap.size]?=some (.cells zM 40 (0,0))):=by show _=_; rw [HB.out.block _ (by omega)]; exact dW_M w
 have HNb:Hid (w1.heap[w.heap.size+1]?=some (.cells #[.int .i64 0,.int .i64 0,.slice none 0 0] 38 (0,0))):=by show _=_; rw [HB.out.block _ (by omega)]; exact dW_N w
 have hsz:w.heap.size+1+1≤w1.heap.size:=by have:=HB.out.size; rw [dW_size] at this; exact this
 have HBW:Hid (Below w.heap.size w w1):=(dW_below w).trans (HB.out.mono (by omega))
 go_wp2_with fail
 have HMb2:Hid ((w1.alloc (.cells #[.int .i64 (k:Int),.int .i64 (s:Int),.slice a9 dl c9] 38)).heap[w.heap.size]?=some (.cells zM 40 (0,0))):=by
  show _=_; rw [heap_old (by omega)]; exact HMb.out
 have HNb2:Hid ((w1.alloc (.cells #[.int .i64 (k:Int),.int .i64 (s:Int),.slice a9 dl c9] 38)).heap[w.heap.size+1]?=some (.cells #[.int .i64 0,.int .i64 0,.slice none 0 0] 38 (0,0))):=by
  show _=_; rw [heap_old (by omega)]; exact HNb.out
 have HXb:Hid ((w1.alloc (.cells #[.int .i64 (k:Int),.int .i64 (s:Int),.slice a9 dl c9] 38)).heap[w1.heap.size]?=some (.cells #[.int .i64 (k:Int),.int .i64 (s:Int),.slice a9 dl c9] 38 (0,0))):=heap_alloc_new w1 _
 have HOW:Hid ((w1.alloc (.cells #[.int .i64 (k:Int),.int .i64 (s:Int),.slice a9 dl c9] 38)).ownsRow (w.heap.size+2) 5 1 (.slice a9 dl c9) dl (bcells d)):=HO.out.alloc _
 have HBW2:Hid (Below w.heap.size w (w1.alloc (.cells #[.int .i64 (k:Int),.int .i64 (s:Int),.slice a9 dl c9] 38))):=HBW.out.alloc (by omega) _
 have hz9:(w1.alloc (.cells #[.int .i64 (k:Int),.int .i64 (s:Int),.slice a9 dl c9] 38)).heap.size=w1.heap.size+1:=by simp
 have HZ:=hide hz9
 clear hz9
 generalize (w1.alloc (.cells #[.int .i64 (k:Int),.int .i64 (s:Int),.slice a9 dl c9] 38))=W at *
 refine out_region _ W w.heap.size (w.heap.size+1) 40 zM zM #[.int .i64 0,.int .i64 0,.slice none 0 0] #[.int .i64 (k:Int),.int .i64 (s:Int),.slice a9 dl c9] 27 28 _ _ (opi rfl) (opi rfl) (opi rfl) (opi rfl) rfl (by kernel_rfl) (by kernel_rfl) (by kernel_rfl) (by kernel_rfl) (by kernel_rfl) (by kernel_rfl) (by kernel_rfl) (by kernel_rfl)
  (fun ty po af W' _=>run_of_build W') (fun ty po af W' hW=>run_of_loadN (by rfl) (by
   show W'.heap[w1.heap.size]?=_
   rw [hW.block _ (by rw [HZ.out]; omega) (by omega)]; exact HXb.out)) rfl rfl (show 27 < 247 by decide) (show 28 < 247 by decide) (by decide) HMb2.out HNb2.out (by omega) rfl rfl infoM infoN MC.zero.2 (by simp [Value.oneCell']) ?_
 simp only [Act.put,List.setIfInBounds_toArray,List.set_cons_zero,List.set_cons_succ]
 have HRM:Hid (((({ W with drawn:=W.drawn+1 } : World).setCells w.heap.size 0 zM.toList).setCells (w.heap.size+1) 0 (#[Value.int .i64 (k:Int),.int .i64 (s:Int),.slice a9 dl c9]:Array Value).toList).rangeAt w.heap.size 0 zM.toList):=bx_apart (bx_set (w:={ W with drawn:=W.drawn+1 }) HMb2.out (Nat.le_refl _)) (by omega)
 have HRN:Hid (((({ W with drawn:=W.drawn+1 } : World).setCells w.heap.size 0 zM.toList).setCells (w.heap.size+1) 0 (#[Value.int .i64 (k:Int),.int .i64 (s:Int),.slice a9 dl c9]:Array Value).toList).rangeAt (w.heap.size+1) 0 (#[Value.int .i64 (k:Int),.int .i64 (s:Int),.slice a9 dl c9]:Array Value).toList) :=
  bx_set (C0:=#[.int .i64 0,.int .i64 0,.slice none 0 0]) (t:=38) (by rw [heap_sets (by omega)]; exact HNb2.out) (by simp)
 have HKe:Hid (Keeps (fun x=>x=w.heap.size∨x=w.heap.size+1) W ((({ W with drawn:=W.drawn+1 } : World).setCells w.heap.size 0 zM.toList).setCells (w.heap.size+1) 0 (#[Value.int .i64 (k:Int),.int .i64 (s:Int),.slice a9 dl c9]:Array Value).toList)) :=
  (Keeps.setCells (w:=W) (w1:={ W with drawn:=W.drawn+1 }) ⟨rfl,rfl,rfl,Nat.le_refl _,fun _ _ _=>rfl⟩ _ 0 _ (.inl (.inl rfl))).setCells _ 0 _ (.inl (.inr rfl))
 generalize ((({ W with drawn:=W.drawn+1 } : World).setCells w.heap.size 0 zM.toList).setCells (w.heap.size+1) 0 (#[Value.int .i64 (k:Int),.int .i64 (s:Int),.slice a9 dl c9]:Array Value).toList)=W9 at *
 go_wp2_with fail
 refine bodyPost_ret (v:=.tuple #[.agg zM,.agg #[.int .i64 (k:Int),.int .i64 (s:Int),.slice a9 dl c9]]) (res_cells2 Tryz.results11 _ W9 w.heap.size (w.heap.size+1) zM _ rfl rfl HRM.out HRN.out Tryz.underlying40 rfl infoM Tryz.underlying38 rfl infoN) rfl ⟨⟨_,rfl,a9,c9,rfl,?_⟩,?_⟩
 ·exact own_low (own_keep HOW.out HKe.out (by omega)) (by omega)
 ·exact HBW2.out.trans (HKe.out.below _ (by rw [HZ.out]; omega) (fun x e=>by omega))
set_option maxHeartbeats 4000000 in
theorem rdec_size (a:Option Addr)(cp n:Nat)(bs:List Nat)(w:World)(hn:bs.length=n)(hl:bs.length≤100000)(hcap:bs.length≤cp)(h:BRd w a bs)(m:Nat)(hr:headM bs=(m,0,0,[]))(hm:m≤5000)(hno:m=0∨m≠n) :
  Calls Tryz.prog 11 #[.slice a n cp] w fun e w'=>BadIs w w' e 1 2 []∧Below w.heap.size w w':=by
 have KH:=rhead_dW a cp bs w hl hcap h _ hr
 rw [hn] at KH
 have HK:=hide KH
 have HW:Hid (MW w (dW w)):=MW.made w
 have KE:Hid (∀ X,MW w X→Calls Tryz.prog 27 #[.int .i64 1,.int .i64 2,.slice none 0 0] X fun e w3=>∃ a9 c9 W5,e=.returned (.agg #[.int .i64 1,.int .i64 2,.slice a9 0 c9])∧Hid ((Instr.storeAt 40 (.pointer (some ⟨w.heap.size,0,none⟩)) (.agg zM)).run Tryz.prog w3=.ok () W5)∧Hid (NtBox W5 (w.heap.size+1))∧Hid (MEnd w W5 1 2 [] a9 0 c9)):=fun X hX=>rmsg_end w X hX 1 2 none 0 0 [] rfl (by decide) (brd_none _ _)
 have hcase:(((m:Int) == 0)=true)∨(((m:Int) == 0)=false∧((m:Int) != (n:Int))=true):=by
  by_cases h9:m=0
  ·exact .inl (by simp; omega)
  ·refine .inr ⟨by simp; omega,?_⟩
   have:m≠n:=by omega
   simp; omega
 clear KH h hl hcap hr hn hno
 simp only at HK
 unfold BadIs NoteIs
 go_enter Tryz.func11,Tryz.ntmps11
 go_wp2_with (refine keptM_alloc_intro _ (run_allocM w) ?_)
 show Calls Tryz.prog 20 #[.slice a n cp] (dW w) _
 with_reducible refine HK.out.mono ?_
 rintro e w1 ⟨a9,c9,rfl,HO,HB⟩
 have HW1:Hid (MW w (w1.alloc (.cells #[.int .i64 0,.int .i64 0,.slice a9 0 c9] 38))):=by
  have hb:Below (dW w).heap.size (dW w) w1:=by rw [dW_size]; exact HB.out
  exact (HW.out.later hb).later ((Below.refl _ _).alloc (Nat.le_refl _) _)
 rcases hcase with h9 | ⟨h9,h8⟩
 ·go_wp2_with (refine keptM_build0_intro _ (run_build0M _) ?_)
  refine (KE.out _ HW1.out).mono ?_
  rintro e w3 ⟨a8,c8,W5,rfl,HST,HX,HF⟩
  obtain ⟨_,r0,r1,r2,f0,f1,f2⟩:=HX.out
  go_wp2_with (refine keptM_store_intro _ _ (.pointer (some ⟨w.heap.size,0,none⟩)) (.agg zM) (by rfl) (by rfl) HST.out ?_)
  refine bodyPost_ret (v:=.tuple #[.agg zM,.agg #[.int .i64 1,.int .i64 2,.slice a8 0 c8]]) (res_cells2 Tryz.results11 _ _ w.heap.size (w.heap.size+1) zM #[.int .i64 1,.int .i64 2,.slice a8 0 c8] rfl rfl HF.out.rM HF.out.rN Tryz.underlying40 rfl infoM Tryz.underlying38 rfl infoN) rfl ⟨?_,HF.out.bel⟩
  exact ⟨_,rfl,a8,c8,rfl,HF.out.own⟩
 ·go_wp2_with (refine keptM_build0_intro _ (run_build0M _) ?_)
  refine (KE.out _ HW1.out).mono ?_
  rintro e w3 ⟨a8,c8,W5,rfl,HST,HX,HF⟩
  obtain ⟨_,r0,r1,r2,f0,f1,f2⟩:=HX.out
  go_wp2_with (refine keptM_store_intro _ _ (.pointer (some ⟨w.heap.size,0,none⟩)) (.agg zM) (by rfl) (by rfl) HST.out ?_)
  refine bodyPost_ret (v:=.tuple #[.agg zM,.agg #[.int .i64 1,.int .i64 2,.slice a8 0 c8]]) (res_cells2 Tryz.results11 _ _ w.heap.size (w.heap.size+1) zM #[.int .i64 1,.int .i64 2,.slice a8 0 c8] rfl rfl HF.out.rM HF.out.rN Tryz.underlying40 rfl infoM Tryz.underlying38 rfl infoN) rfl ⟨?_,HF.out.bel⟩
  exact ⟨_,rfl,a8,c8,rfl,HF.out.own⟩
end
section
attribute [local go_sem ↓] keptM_load keptM_store keptM_alloc keptM_build
set_option maxHeartbeats 4000000 in
theorem rdec_alive (g o n cp:Nat)(bs:List Nat)(w:World)(hn:bs.length=n)(hn19:19≤n)(hl:n≤5000)(hcap:n≤cp)(h:BRd w (some ⟨g,o,none⟩) bs)(hr:headM bs=(n,0,0,[]))(hk4:bs.getD 18 0=4) :
  Calls Tryz.prog 11 #[.slice (some ⟨g,o,none⟩) n cp] w fun e w'=>e=.returned (.tuple #[.agg (msgC 4 0 0 (.slice none 0 0)),.agg #[.int .i64 0,.int .i64 0,.slice none 0 0]])∧Below w.heap.size w w':=by
 have KH:=rhead_dW (some ⟨g,o,none⟩) cp bs w (by omega) (by omega) h _ hr
 rw [hn] at KH
 have HK:=hide KH
 obtain ⟨g',o',e9,hc⟩:=h.1.2 (by omega)
 cases e9
 have c18:w.cell? ⟨g,o+18,none⟩=some (.int .u8 4):=by rw [hc 18 (by omega)]; show some (Value.int .u8 ((bs.getD 18 0:Nat):Int))=_; rw [hk4]; rfl
 have zg:=World.block_lt_of_cell? w _ c18
 simp only at zg
 have H29:Hid (19≤n∧n≤5000):=⟨hn19,hl⟩
 have hz0:((n:Int) == 0)=false:=by simp; omega
 clear KH h hcap hr hn hk4 hc hl hn19
 simp only at HK
 go_enter Tryz.func11,Tryz.ntmps11
 go_wp2_with (refine keptM_alloc_intro _ (run_allocM w) ?_)
 show Calls Tryz.prog 20 #[.slice (some ⟨g,o,none⟩) n cp] (dW w) _
 with_reducible refine HK.out.mono ?_
 rintro e w1 ⟨a9,c9,rfl,HO,HB⟩
 have HH:=hide (h6_of a9 0 c9 HB.out zg c18)
 go_wp2_with fail
 generalize (w1.alloc (.cells #[.int .i64 0,.int .i64 0,.slice a9 0 c9] 38))=W at *
 refine rm_region _ W g o n cp 4 (opi rfl) (opi rfl) (opi rfl) (opi rfl) (opi rfl) (opi rfl) (opi rfl) (opi rfl) (opi rfl) (opi rfl) rfl (by kernel_rfl)
  (by kernel_rfl) (by kernel_rfl) (by kernel_rfl) (by kernel_rfl) (by kernel_rfl) (by kernel_rfl) (by kernel_rfl) (by kernel_rfl) (by kernel_rfl) (by kernel_rfl) (by kernel_rfl)
  rfl rfl (by have:=H29.out.1; omega) (by have:=H29.out.2; omega) (by omega) HH.out.c18 ?_
 intro a W6 hfr h6 h7 bY hb6
 generalize (if cp=19 then some (⟨g,o,none⟩:Addr) else some ⟨g,o+19,none⟩)=v7 at h7
 obtain ⟨x0,x1,x2,x3,x4,x5,x6,rfl⟩:=hfr.lay9m (by exact (by decide:∀ s∈[39,40,41,42,43,44,45,6,7],s < 247)) h6 h7
 have HD:Hid (D6 w W6 w1.heap.size W.heap.size (msgC 4 0 0 (.slice none 0 0)) (.slice a9 0 c9)):=HH.out.d6 bY hb6
 have hsz:=HH.out.le
 have y0:W6.cell? ⟨W.heap.size,0,none⟩=some (.int .i64 4):=range_of HD.out.bY 0 _ rfl
 have zY:W.heap.size < W6.heap.size:=HD.out.hs
 clear hfr h6 h7 bY hb6
 simp only [Act.put,List.setIfInBounds_toArray,List.set_cons_zero,List.set_cons_succ]
 obtain ⟨W5,HLD,HST,HX,HG⟩:=rgood_end (C:=(msgC 4 0 0 (.slice none 0 0))) (Y:=W.heap.size) HD.out.bM HD.out.bN HD.out.bY (MC.msg 4 0 0 none 0 0) HD.out.bel
 obtain ⟨_,r0,r1,r2,f0,f1,f2⟩:=HX.out
 go_wp2_with (first | (refine keptM_load_intro _ (.pointer (some ⟨W.heap.size,0,none⟩)) (.agg (msgC 4 0 0 (.slice none 0 0))) (by rfl) HLD.out ?_) | (refine keptM_store_intro _ _ (.pointer (some ⟨w.heap.size,0,none⟩)) (.agg (msgC 4 0 0 (.slice none 0 0))) (by rfl) (by rfl) HST.out ?_))
 refine bodyPost_ret (v:=.tuple #[.agg (msgC 4 0 0 (.slice none 0 0)),.agg #[.int .i64 0,.int .i64 0,.slice none 0 0]]) (res_cells2 Tryz.results11 _ _ w.heap.size (w.heap.size+1) (msgC 4 0 0 (.slice none 0 0)) #[.int .i64 0,.int .i64 0,.slice none 0 0] rfl rfl HG.out.rM HG.out.rN Tryz.underlying40 rfl infoM Tryz.underlying38 rfl infoN) rfl ⟨rfl,HG.out.bel⟩
set_option maxHeartbeats 4000000 in
theorem rdec_note (g o n cp:Nat)(bs:List Nat)(w:World)(hn:bs.length=n)(hn21:21≤n)(hl:n≤5000)(hcap:n≤cp)(h:BRd w (some ⟨g,o,none⟩) bs)(hr:headM bs=(n,0,0,[]))(hk3:bs.getD 18 0=3) :
  Calls Tryz.prog 11 #[.slice (some ⟨g,o,none⟩) n cp] w fun e w'=>(∃ a8 c8,e=.returned (.tuple #[.agg (msgC 3 (bs.getD 19 0:Int) (bs.getD 20 0:Int) (.slice a8 (n - 19 - 2) c8)),.agg #[.int .i64 0,.int .i64 0,.slice none 0 0]])∧w'.ownsRow w.heap.size 5 1 (.slice a8 (n - 19 - 2) c8) (n - 19 - 2) (bcells (bs.drop 21)))∧Below w.heap.size w w':=by
 have KH:=rhead_dW (some ⟨g,o,none⟩) cp bs w (by omega) (by omega) h _ hr
 rw [hn] at KH
 have HK:=hide KH
 obtain ⟨g',o',e9,hc⟩:=h.1.2 (by omega)
 cases e9
 have c18:w.cell? ⟨g,o+18,none⟩=some (.int .u8 3):=by rw [hc 18 (by omega)]; show some (Value.int .u8 ((bs.getD 18 0:Nat):Int))=_; rw [hk3]; rfl
 have zg:=World.block_lt_of_cell? w _ c18
 simp only at zg
 have hcp19:¬ cp=19:=by omega
 have hz0:((n:Int) == 0)=false:=by simp; omega
 have hni:¬ ((n:Int) < 19):=by omega
 have H29:Hid (21≤n∧n≤5000):=⟨hn21,hl⟩
 have HX19:Hid (∀ X,Below w.heap.size w X→X.cell? ⟨g,o+19,none⟩=some (.int .u8 (bs.getD 19 0:Int))∧X.cell? ⟨g,o+19+1,none⟩=some (.int .u8 (bs.getD 20 0:Int))∧BRd X (if cp - 19=2 then some ⟨g,o+19,none⟩ else some ⟨g,o+19+2,none⟩) (bs.drop 21)):=fun X hX=>by
  refine ⟨?_,?_,?_⟩
  ·rw [hX.cell (p:=⟨g,o+19,none⟩) zg]; exact hc 19 (by omega)
  ·rw [hX.cell (p:=⟨g,o+19+1,none⟩) zg]; exact hc 20 (by omega)
  ·have h19:=brd_drop (k:=19) (h.below hX) (by omega)
   have:=brd_sub (a:=if cp - 19=2 then some ⟨g,o+19,none⟩ else some ⟨g,o+19+2,none⟩) (k:=2) (l:=n - 21) (c:=cp - 19) h19 (by rw [List.length_drop]; omega) (by rw [List.length_drop]; omega) rfl
   rwa [List.drop_drop,List.take_of_length_le (by rw [List.length_drop]; omega)] at this
 have hx256:bs.getD 19 0 < 256:=getD_lt256 h.2 19
 have hy256:bs.getD 20 0 < 256:=getD_lt256 h.2 20
 have hdl:(bs.drop 21).length=n - 19 - 2:=by rw [List.length_drop]; omega
 have HDL:=hide hdl
 clear KH h hcap hr hn hk3 hc hl hn21 hdl
 simp only at HK
 generalize bs.getD 19 0=x at *
 generalize bs.getD 20 0=y at *
 generalize bs.drop 21=d at *
 go_enter Tryz.func11,Tryz.ntmps11
 go_wp2_with (refine keptM_alloc_intro _ (run_allocM w) ?_)
 show Calls Tryz.prog 20 #[.slice (some ⟨g,o,none⟩) n cp] (dW w) _
 with_reducible refine HK.out.mono ?_
 rintro e w1 ⟨a9,c9,rfl,HO,HB⟩
 have HH:=hide (h6_of a9 0 c9 HB.out zg c18)
 go_wp2_with fail
 generalize (w1.alloc (.cells #[.int .i64 0,.int .i64 0,.slice a9 0 c9] 38))=W at *
 refine rm_region _ W g o n cp 3 (opi rfl) (opi rfl) (opi rfl) (opi rfl) (opi rfl) (opi rfl) (opi rfl) (opi rfl) (opi rfl) (opi rfl) rfl (by kernel_rfl)
  (by kernel_rfl) (by kernel_rfl) (by kernel_rfl) (by kernel_rfl) (by kernel_rfl) (by kernel_rfl) (by kernel_rfl) (by kernel_rfl) (by kernel_rfl) (by kernel_rfl) (by kernel_rfl)
  rfl rfl (by have:=H29.out.1; omega) (by have:=H29.out.2; omega) (by omega) HH.out.c18 ?_
 intro a W6 hfr h6 h7 bY hb6
 rw [if_neg hcp19] at h7
 obtain ⟨x0,x1,x2,x3,x4,x5,x6,rfl⟩:=hfr.lay9m (by exact (by decide:∀ s∈[39,40,41,42,43,44,45,6,7],s < 247)) h6 h7
 have HD:Hid (D6 w W6 w1.heap.size W.heap.size (msgC 3 0 0 (.slice none 0 0)) (.slice a9 0 c9)):=HH.out.d6 bY hb6
 have hsz:=HH.out.le
 have y0:W6.cell? ⟨W.heap.size,0,none⟩=some (.int .i64 3):=range_of HD.out.bY 0 _ rfl
 have zY:W.heap.size < W6.heap.size:=HD.out.hs
 clear hfr h6 h7 bY hb6
 simp only [Act.put,List.setIfInBounds_toArray,List.set_cons_zero,List.set_cons_succ]
 go_wp2_with fail
 obtain ⟨q19,q20,qd⟩:=HX19.out W6 HD.out.bel
 refine rn_region _ W6 W.heap.size g (o+19) (n - 19) (cp - 19) x y d (opi rfl) (opi rfl) (opi rfl) (opi rfl) (opi rfl) (opi rfl) (opi rfl) (opi rfl) (opi rfl) (opi rfl) (opi rfl) (opi rfl) (opi rfl) rfl (by kernel_rfl)
  (by kernel_rfl) (by kernel_rfl) (by kernel_rfl) (by kernel_rfl) (by kernel_rfl) (by kernel_rfl) (by kernel_rfl) (by kernel_rfl) (by kernel_rfl) (by kernel_rfl) (by kernel_rfl) (by kernel_rfl) (by kernel_rfl) (by kernel_rfl)
  rfl rfl rfl (by have:=H29.out; omega) (by have:=H29.out; omega) hx256 hy256 q19 q20 (by have:=HD.out.hX; have:=HD.out.hY; omega) HD.out.bY HDL.out (fun X hX=>(HX19.out X (HD.out.bel.trans (hX.mono HD.out.bel.size))).2.2) ?_
 intro a W8 W9 a8 c8 hfr hb8 ho8 hk9 b9 z9
 obtain ⟨y0',y1',y2',y3',y4',y5',y6',y7',y8',y9',y10',y11',rfl⟩:=hfr.lay12 (by exact (by decide:∀ s∈[233,234,235,236,237,238,239,240,241,242,243,244],s < 247))
 have zx:w1.heap.size≠W.heap.size∧w.heap.size+2≤w1.heap.size∧w1.heap.size < W.heap.size:=by have:=HD.out.hX; have:=HD.out.hY; omega
 have keepB:∀ j,j < W6.heap.size→j≠W.heap.size→W9.heap[j]?=W6.heap[j]?:=fun j hj hne=>by rw [hk9.block j (by have:=hb8.size; omega) hne,hb8.block j hj]
 have H9M:Hid (W9.heap[w.heap.size]?=some (.cells zM 40 (0,0))):=by show _=_; rw [keepB _ (by omega) (by omega)]; exact HD.out.bM
 have H9N:Hid (W9.heap[w.heap.size+1]?=some (.cells #[.int .i64 0,.int .i64 0,.slice none 0 0] 38 (0,0))):=by show _=_; rw [keepB _ (by omega) (by omega)]; exact HD.out.bN
 have H9Y:=hide b9
 have B9:Hid (Below w.heap.size w W9):=HD.out.bel.trans ((hb8.mono HD.out.bel.size).trans (hk9.below _ (by have:=HD.out.bel.size; have:=hb8.size; omega) (fun x e=>by omega)))
 have HOW9:Hid (W9.ownsRow W6.heap.size 5 1 (.slice a8 (n - 19 - 2) c8) (n - 19 - 2) (bcells d)):=own_keep ho8 hk9 (fun x hx=>by omega)
 have zYx:W.heap.size < W9.heap.size:=(Array.getElem?_eq_some_iff.1 b9).1
 clear hfr hb8 ho8 hk9 b9 z9 keepB q19 q20 qd
 simp only [Act.put,List.setIfInBounds_toArray,List.set_cons_zero,List.set_cons_succ]
 obtain ⟨W5,HLD,HST,HX,HG⟩:=rgood_end (C:=(msgC 3 (x:Int) (y:Int) (.slice a8 (n - 19 - 2) c8))) (Y:=W.heap.size) H9M.out H9N.out H9Y.out (MC.msg 3 (x:Int) (y:Int) a8 (n - 19 - 2) c8) B9.out
 obtain ⟨_,r0,r1,r2,f0,f1,f2⟩:=HX.out
 go_wp2_with (first | (refine keptM_load_intro _ (.pointer (some ⟨W.heap.size,0,none⟩)) (.agg (msgC 3 (x:Int) (y:Int) (.slice a8 (n - 19 - 2) c8))) (by rfl) HLD.out ?_) | (refine keptM_store_intro _ _ (.pointer (some ⟨w.heap.size,0,none⟩)) (.agg (msgC 3 (x:Int) (y:Int) (.slice a8 (n - 19 - 2) c8))) (by rfl) (by rfl) HST.out ?_))
 refine bodyPost_ret (v:=.tuple #[.agg (msgC 3 (x:Int) (y:Int) (.slice a8 (n - 19 - 2) c8)),.agg #[.int .i64 0,.int .i64 0,.slice none 0 0]]) (res_cells2 Tryz.results11 _ _ w.heap.size (w.heap.size+1) (msgC 3 (x:Int) (y:Int) (.slice a8 (n - 19 - 2) c8)) #[.int .i64 0,.int .i64 0,.slice none 0 0] rfl rfl HG.out.rM HG.out.rN Tryz.underlying40 rfl infoM Tryz.underlying38 rfl infoN) rfl ⟨⟨a8,c8,rfl,own_low (own_keep HOW9.out HG.out.keep (fun x hx=>by have:=HD.out.hY; have:=HD.out.hs; omega)) (by have:=HD.out.bel.size; omega)⟩,HG.out.bel⟩
end
end Go.Proofs.YtogbjeaceboemaaGreatDoor
