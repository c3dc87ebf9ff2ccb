import Derived.Test.YtogbjeaceboemaaGreatDoorPA21
import Derived.Test.YtogbjeaceboemaaGreatDoorPA4
import Derived.Test.YtogbjeaceboemaaGreatDoorPA6
import Derived.Deep.QuietTactic
import Derived.BigQuiet
import Derived.Deep.DeepCutAuto
import Derived.Test.YtogbjeaceboemaaGreatDoorPA3
namespace Go.Proofs.YtogbjeaceboemaaGreatDoor
open Go.RowKit
set_option maxRecDepth 100000
def plcR (r:Int×Int×List Nat)(l:List (Int×Int×List Nat)):Bool:=l.any fun x=>decide (r.2.1 < x.2.1)
def curL (r:Int×Int×List Nat)(l:List (Int×Int×List Nat)):List (Int×Int×List Nat):=if plcR r l then insR r l else l
theorem plcR_snoc (r x:Int×Int×List Nat)(l:List (Int×Int×List Nat)):plcR r (l++[x])=(plcR r l || decide (r.2.1 < x.2.1)):=by
 unfold plcR
 simp
theorem insR_none (r:Int×Int×List Nat):∀ l:List (Int×Int×List Nat),plcR r l=false→insR r l=l++[r]
 | [],_=>rfl
 | x :: l,h=>by
  unfold plcR at h
  simp only [List.any_cons,Bool.or_eq_false_iff,decide_eq_false_iff_not] at h
  rw [insR,if_neg h.1,insR_none r l h.2]
  rfl
theorem insR_put (r x:Int×Int×List Nat)(hx:r.2.1 < x.2.1):∀ l:List (Int×Int×List Nat),plcR r l=false→insR r (l++[x])=l++[r]++[x]
 | [],_=>by rw [List.nil_append,insR,if_pos hx]; rfl
 | y :: l,h=>by
  unfold plcR at h
  simp only [List.any_cons,Bool.or_eq_false_iff,decide_eq_false_iff_not] at h
  rw [List.cons_append,insR,if_neg h.1,insR_put r x hx l h.2]
  rfl
theorem insR_past (r x:Int×Int×List Nat):∀ l:List (Int×Int×List Nat),plcR r l=true→insR r (l++[x])=insR r l++[x]
 | [],h=>by cases h
 | y :: l,h=>by
  unfold plcR at h
  simp only [List.any_cons,Bool.or_eq_true,decide_eq_true_eq] at h
  by_cases hy:r.2.1 < y.2.1
  ·rw [List.cons_append,insR,if_pos hy,insR,if_pos hy]
   rfl
  ·rw [List.cons_append,insR,if_neg hy,insR,if_neg hy,insR_past r x l (h.resolve_left hy)]
   rfl
theorem curL_stay (r x:Int×Int×List Nat)(l:List (Int×Int×List Nat))(h:plcR r l=true∨¬ r.2.1 < x.2.1):curL r (l++[x])=curL r l++[x]:=by
 unfold curL
 rw [plcR_snoc]
 cases hp:plcR r l
 ·have h2:=h.resolve_left (by simp [hp])
  rw [decide_eq_false h2]
  rfl
 ·rw [Bool.true_or,if_pos rfl,if_pos rfl,insR_past r x l hp]
theorem curL_put (r x:Int×Int×List Nat)(l:List (Int×Int×List Nat))(h:plcR r l=false)(hx:r.2.1 < x.2.1):curL r (l++[x])=curL r l++[r]++[x]:=by
 unfold curL
 rw [plcR_snoc,h,decide_eq_true hx,Bool.false_or,if_pos rfl,if_neg (by simp),insR_put r x hx l h]
theorem curL_end (r:Int×Int×List Nat)(l:List (Int×Int×List Nat)):insR r l=if plcR r l then curL r l else curL r l++[r]:=by
 unfold curL
 cases h:plcR r l
 ·simp only [Bool.false_eq_true,if_false]
  exact insR_none r l h
 ·simp only [if_true]
theorem curL_len (r:Int×Int×List Nat)(l:List (Int×Int×List Nat)):(curL r l).length≤l.length+1:=by
 have h:∀ l:List (Int×Int×List Nat),(insR r l).length=l.length+1:=fun l=>by
  induction l with
  | nil=>rfl
  | cons x l ih =>
   rw [insR]
   split
   ·rfl
   ·rw [List.length_cons,ih,List.length_cons]
 unfold curL
 split
 ·rw [h]; exact Nat.le_refl _
 ·exact Nat.le_succ _
def LRaws (w1:World)(B:Nat)(wq:World)(v:Value)(rs:List (Int×Int×List Nat)):Prop :=
 ∃ cs,wq.ownsRow w1.heap.size 104 3 v rs.length cs∧∀ i r,rs[i]?=some r→cs[i * 3]?=some (.int .i64 r.1)∧cs[i * 3+1]?=some (.int .i64 r.2.1)∧∃ u,cs[i * 3+2]?=some u∧w1.ownsRow B 5 1 u r.2.2.length (bcells r.2.2)
theorem LRaws.nil (w1:World)(B:Nat)(wq:World):LRaws w1 B wq (.slice none 0 0) []:=⟨[],own_nil _ _ _ _,fun i s h=>by simp at h⟩
theorem LRaws.later {w1 wq wp:World}{B:Nat}{v:Value}{rs:List (Int×Int×List Nat)} (h:LRaws w1 B wq v rs) (hb:Below wq.heap.size wq wp):LRaws w1 B wp v rs:=by
 obtain ⟨cs,ho,hc⟩:=h
 exact ⟨cs,own_later ho hb,hc⟩
theorem LRaws.own {w1 wq:World}{B:Nat}{v:Value}{rs:List (Int×Int×List Nat)} (h:LRaws w1 B wq v rs) (hb:Below w1.heap.size w1 wq) (hB:B≤w1.heap.size):OwnRaws wq B v rs:=by
 obtain ⟨cs,ho,hc⟩:=h
 refine ⟨cs,own_base ho hB,fun i r hi=>?_⟩
 obtain ⟨h1,h2,u,h3,h4⟩:=hc i r hi
 exact ⟨h1,h2,u,h3,own_later h4 hb⟩
theorem LRaws.snoc {w1 wq:World}{B:Nat}{v u:Value}{rs:List (Int×Int×List Nat)}{f t:Int}{ds:List Nat} (h:LRaws w1 B wq v rs) (hb:Below w1.heap.size w1 wq) (hu:w1.ownsRow B 5 1 u ds.length (bcells ds)) (hl:rs.length≤100000) :
  ∃ p' c' w',(Builtin.append_ #[32,32] 32 #[v,.slice (some ⟨wq.heap.size,0,none⟩) 1 1]).run Tryz.prog (wq.alloc (.cells #[.int .i64 f,.int .i64 t,u] 104))=.ok (.slice p' (rs.length+1) c') w'∧LRaws w1 B w' (.slice p' (rs.length+1) c') (rs++[(f,t,ds)])∧Below w1.heap.size wq w':=by
 obtain ⟨cs,ho,hc⟩:=h
 obtain ⟨v',w',hr,h2,h3⟩:=app_new elemRaw ho hb.size 1 [.int .i64 f,.int .i64 t,u] rfl (by intro x hx; simp at hx; rcases hx with rfl | rfl | rfl; rfl; rfl; exact own_one hu) (by omega) wq.heap.size rfl
 obtain ⟨p',c',e'⟩:=own_shape h2
 subst e'
 refine ⟨p',c',w',hr,⟨_,by rw [List.length_append]; exact h2,fun i s hi=>?_⟩,h3⟩
 have hcl:cs.length=rs.length * 3:=ho.1
 by_cases hlt:i < rs.length
 ·rw [List.getElem?_append_left hlt] at hi
  obtain ⟨g1,g2,x,g3,g4⟩:=hc i s hi
  exact ⟨by rw [List.getElem?_append_left (by omega)]; exact g1,by rw [List.getElem?_append_left (by omega)]; exact g2,x,by rw [List.getElem?_append_left (by omega)]; exact g3,g4⟩
 ·rw [List.getElem?_append_right (by omega)] at hi
  have hi0:i - rs.length=0:=by
   have:=(List.getElem?_eq_some_iff.1 hi).1
   simpa using this
  rw [hi0] at hi
  simp at hi
  subst hi
  have e1:i=rs.length:=by omega
  subst e1
  exact ⟨by rw [List.getElem?_append_right (by omega),hcl,Nat.sub_self]; rfl,by rw [List.getElem?_append_right (by omega),show rs.length * 3+1 - cs.length=1 from by omega]; rfl,u,by rw [List.getElem?_append_right (by omega),show rs.length * 3+2 - cs.length=2 from by omega]; rfl,hu⟩
section
attribute [local go_sem ↓] kept_append kept_appendR
set_option maxHeartbeats 6400000 in
theorem raw_any (X B:Nat)(a:At)(f t:Int)(da:Option Addr)(dn dc:Nat)(d:List Nat)(w:World)(hdn:d.length=dn)(hX:Box w X B a)(hB:B≤w.heap.size)(hr:BRd w da d)(hl:a.raws.length≤5000)(hdl:dn≤60000) :
  Calls Tryz.prog 51 #[.pointer (some ⟨X,0,none⟩),.agg #[.int .i64 f,.int .i64 t,.slice da dn dc]] w fun e w'=>e=.returned (.tuple #[])∧Box w' X B { a with raws:=insR (f,t,d) a.raws }∧Keeps (fun k=>k=X) w w':=by
 have hXl:=hX.pos
 obtain ⟨p6,k6,q6,o6⟩:=hX.c6
 obtain ⟨m,hm⟩:∃ m,m=a.raws.length:=⟨_,rfl⟩
 rw [← hm] at q6 o6 hl
 -- the copy
 obtain ⟨wb,hwb⟩:∃ wb,wb=w.alloc (.cells #[.int .i64 f,.int .i64 t,.slice da dn dc] 104):=⟨_,rfl⟩
 have hbb:Below w.heap.size w wb:=by rw [hwb]; exact (Below.refl _ _).alloc (Nat.le_refl _) _
 have hsb:wb.heap.size=w.heap.size+1:=by rw [hwb]; simp
 have cb:∀ j,wb.cell? ⟨w.heap.size,j,none⟩=#[.int .i64 f,.int .i64 t,.slice da dn dc][j]?:=fun j=>by rw [hwb]; exact World.cell?_alloc_mark _ _ _ _ j
 have fb:∀ j,wb.frozen? ⟨w.heap.size,j,none⟩=false:=fun j=>by
  rw [hwb]
  have h:=heap_alloc_new w (.cells #[.int .i64 f,.int .i64 t,.slice da dn dc] 104)
  simp only [World.frozen?,h]
  simp
 have hbe:Below wb.heap.size wb (wb.alloc (.cells #[] 5)):=(Below.refl _ _).alloc (Nat.le_refl _) _
 obtain ⟨v1,w1,hr1,ho1,hb1⟩:=app_brd (n:=0) (ys:=[]) d da dc rfl (own_empty wb) hbe.size (by omega) (hr.below (hbb.trans (hbe.mono hbb.size)))
 rw [List.nil_append] at ho1
 rw [hdn] at hr1
 obtain ⟨a1,c1,e1⟩:=own_shape ho1
 rw [hdn] at e1
 subst e1
 rw [hsb] at hr1
 have hb1':Below wb.heap.size wb w1:=hbe.trans hb1
 have hlt1:w.heap.size < wb.heap.size:=by omega
 have d0:w1.cell? ⟨w.heap.size,0,none⟩=some (.int .i64 f):=by rw [hb1'.cell (p:=⟨w.heap.size,0,none⟩) hlt1,cb]; rfl
 have d1:w1.cell? ⟨w.heap.size,1,none⟩=some (.int .i64 t):=by rw [hb1'.cell (p:=⟨w.heap.size,1,none⟩) hlt1,cb]; rfl
 have d2:w1.cell? ⟨w.heap.size,2,none⟩=some (.slice da dn dc):=by rw [hb1'.cell (p:=⟨w.heap.size,2,none⟩) hlt1,cb]; rfl
 have d2f:w1.frozen? ⟨w.heap.size,2,none⟩=false:=by rw [hb1'.frozen (p:=⟨w.heap.size,2,none⟩) hlt1]; exact fb 2
 obtain ⟨w2,hw2⟩:∃ w2,w2=w1.setCell ⟨w.heap.size,2,none⟩ (.slice a1 dn c1):=⟨_,rfl⟩
 have e0:w2.cell? ⟨w.heap.size,0,none⟩=some (.int .i64 f):=by rw [hw2,World.cell?_setCell_other _ _ _ _ (by intro e9; injection e9 with _ e2 _; cases e2)]; exact d0
 have e1:w2.cell? ⟨w.heap.size,1,none⟩=some (.int .i64 t):=by rw [hw2,World.cell?_setCell_other _ _ _ _ (by intro e9; injection e9 with _ e2 _; cases e2)]; exact d1
 have e2:w2.cell? ⟨w.heap.size,2,none⟩=some (.slice a1 dn c1):=by rw [hw2,World.cell?_setCell_same _ _ _ d2]
 have hw2b:Below w.heap.size w w2:=by rw [hw2]; exact (hbb.trans (hb1'.mono hbb.size)).setCell (Nat.le_refl _) _
 have hs2:w.heap.size < w2.heap.size:=by have:=World.block_lt_of_cell? w2 _ e0; simpa using this
 have hu2:w2.ownsRow B 5 1 (.slice a1 dn c1) d.length (bcells d):=by rw [hw2]; exact own_base (own_under ho1 hlt1 _ _) (by omega)
 have HX2:=hide (hX.later hw2b)
 have HU2:=hide hu2
 have HB2:=hide hw2b
 have HE:Hid (∀ W,Below w2.heap.size w2 W→W.cell? ⟨w.heap.size,0,none⟩=some (.int .i64 f)∧W.cell? ⟨w.heap.size,1,none⟩=some (.int .i64 t)∧W.cell? ⟨w.heap.size,2,none⟩=some (.slice a1 dn c1)∧W.cell? ⟨X,6,none⟩=some (.slice p6 m k6)):=fun W hb=>by
  have hX2:X < w2.heap.size:=by omega
  refine ⟨?_,?_,?_,?_⟩
  ·rw [hb.cell (p:=⟨w.heap.size,0,none⟩) hs2]; exact e0
  ·rw [hb.cell (p:=⟨w.heap.size,1,none⟩) hs2]; exact e1
  ·rw [hb.cell (p:=⟨w.heap.size,2,none⟩) hs2]; exact e2
  ·rw [hb.cell (p:=⟨X,6,none⟩) hX2,hw2b.cell (p:=⟨X,6,none⟩) hXl]; exact q6
 obtain ⟨cs6,ho6,hc6⟩:=o6
 have HM:=hide hm
 have HR:Hid (∀ k (h:k < a.raws.length),∃ g6 u6,p6=some ⟨g6,0,none⟩∧w2.ownsRow B 5 1 u6 a.raws[k].2.2.length (bcells a.raws[k].2.2)∧∀ W,Below w2.heap.size w2 W→g6 < W.heap.size∧W.cell? ⟨g6,k * 3,none⟩=some (.int .i64 a.raws[k].1)∧W.cell? ⟨g6,k * 3+1,none⟩=some (.int .i64 a.raws[k].2.1)∧W.cell? ⟨g6,k * 3+2,none⟩=some u6):=fun k h=>by
  obtain ⟨g6,c6,e6,_,_⟩:=ho6.form (by omega)
  simp only [Value.slice.injEq] at e6
  obtain ⟨rfl,_,rfl⟩:=e6
  obtain ⟨z1,z2,u6,z3,z4⟩:=hc6 k a.raws[k] (List.getElem?_eq_getElem h)
  have hg:=own_block ho6 g6 rfl
  have ho:w2.ownsRow B 104 3 (.slice (some ⟨g6,0,none⟩) a.raws.length k6) a.raws.length cs6:=by have h9:=own_later ho6 hw2b; rw [hm] at h9; exact h9
  have hcl:cs6.length=a.raws.length * 3:=ho.1
  refine ⟨g6,u6,rfl,own_later z4 hw2b,fun W hb=>?_⟩
  have hg2:g6 < w2.heap.size:=Nat.lt_of_lt_of_le hg.2 hw2b.size
  have t0:=ho.cellAt (k * 3) (show k * 3 < a.raws.length * 3 by omega)
  have t1:=ho.cellAt (k * 3+1) (show k * 3+1 < a.raws.length * 3 by omega)
  have t2:=ho.cellAt (k * 3+2) (show k * 3+2 < a.raws.length * 3 by omega)
  refine ⟨Nat.lt_of_lt_of_le hg2 hb.size,?_,?_,?_⟩
  ·rw [hb.cell (p:=⟨g6,k * 3,none⟩) hg2,t0]; exact z1
  ·rw [hb.cell (p:=⟨g6,k * 3+1,none⟩) hg2,t1]; exact z2
  ·rw [hb.cell (p:=⟨g6,k * 3+2,none⟩) hg2,t2]; exact z3
 have HR1:=hide hr1
 have hw2s:B≤w2.heap.size:=by have:=hw2b.size; omega
 clear hr1 ho1 hb1 hb1' hbe cb fb hX hr hu2 q6 ho6 hc6 hm
 go_enter Tryz.func51,Tryz.ntmps51
 go_wp2_with fail
 rw [← hwb]
 clear hwb
 refine kept_append_intro _ _ (.slice (some ⟨w.heap.size+1,0,none⟩) 0 0) (.slice da dn dc) (.slice a1 dn c1) (w':=w1) (by rfl) (by rfl) (by with_reducible exact HR1.out) ?_
 go_wp2_with fail
 rw [← hw2]
 clear hw2
 go_loopw [4,5,6] (fun u p i wq=>∃ k:Nat,k≤m∧i=.int .i64 k∧p=.bool (plcR (f,t,d) (a.raws.take k))∧Hid (LRaws w2 B wq u (curL (f,t,d) (a.raws.take k)))∧Hid (Below w2.heap.size w2 wq)) (fun _ _ i _=>m - (intOf i).toNat)
 case atStart=>exact ⟨0,Nat.zero_le _,rfl,rfl,LRaws.nil _ _ _,Below.refl _ _⟩
 case round =>
  obtain ⟨k,hk,rfl,rfl,HL,HB⟩:=hrel
  obtain ⟨y0,y1,y2,y6⟩:=HE.out wr HB.out
  by_cases hlt:k < m
  ·have hkr:k < a.raws.length:=by have:=HM.out; omega
   obtain ⟨g6,u6,rfl,hu6,hcc⟩:=HR.out k hkr
   have htk:a.raws.take (k+1)=a.raws.take k++[a.raws[k]]:=List.take_succ_eq_append_getElem hkr
   obtain ⟨hgw,r0,r1,r2⟩:=hcc wr HB.out
   have HCC:=hide hcc
   have HLN:=hide (curL_len (f,t,d) (a.raws.take k))
   have hlk:(a.raws.take k).length≤5000:=by rw [List.length_take]; omega
   have i0:(0:Int)≤(k:Int):=Int.natCast_nonneg _
   have i1:(k:Int) < (m:Int):=by omega
   have HPS:=hide (plcR_snoc (f,t,d) a.raws[k] (a.raws.take k))
   have HU6:=hide hu6
   rw [← htk] at HPS
   clear hcc hu6
   cases hp:plcR (f,t,d) (a.raws.take k)
   ·rw [hp] at HPS
    by_cases hgt:t < a.raws[k].2.1
    ·have HCP:=hide (curL_put (f,t,d) a.raws[k] (a.raws.take k) hp hgt)
     rw [← htk] at HCP
     rw [decide_eq_true (show (f,t,d).2.1 < a.raws[k].2.1 from hgt),Bool.false_or] at HPS
     clear htk
     go_wp2_with fail
     go_quiet (fail)
     have hbd:Below wr.heap.size wr (wr.drewN nq):=below_drewN (Below.refl _ _) nq
     have HLD:=hide (HL.out.later hbd)
     have HBD:=hide (below_drewN HB.out nq)
     generalize wr.drewN nq=wd at *
     obtain ⟨y0,y1,y2,y6⟩:=HE.out wd HBD.out
     obtain ⟨hgw,r0,r1,r2⟩:=HCC.out wd HBD.out
     clear hbd
     obtain ⟨p4,c4,w4,hr4,hl4,hb4⟩:=HLD.out.snoc (f:=f) (t:=t) (ds:=d) HBD.out HU2.out (by have:=HLN.out; omega)
     have HL4:=hide hl4
     have HR4:=hide hr4
     have HB4:Hid (Below w2.heap.size w2 w4):=HBD.out.trans hb4
     clear hr4 hl4 hb4
     go_wp2_with fail
     refine kept_appendR_intro _ _ u4 (.slice (some ⟨wd.heap.size,0,none⟩) 1 1) (.slice p4 ((curL (f,t,d) (a.raws.take k)).length+1) c4) (w':=w4) (by rfl) (by rfl) (by with_reducible exact HR4.out) ?_
     clear y0 y1 y2 y6 hgw r0 r1 r2
     obtain ⟨y0,y1,y2,y6⟩:=HE.out w4 HB4.out
     obtain ⟨hgw,r0,r1,r2⟩:=HCC.out w4 HB4.out
     obtain ⟨p5,c5,w5,hr5,hl5,hb5⟩:=HL4.out.snoc (f:=a.raws[k].1) (t:=a.raws[k].2.1) (ds:=a.raws[k].2.2) HB4.out HU6.out (by have:=HLN.out; rw [List.length_append]; simp only [List.length_cons,List.length_nil]; omega)
     have HL5:Hid (LRaws w2 B w5 (.slice p5 ((curL (f,t,d) (a.raws.take k)++[(f,t,d)]).length+1) c5) (curL (f,t,d) (a.raws.take (k+1)))):=by show LRaws _ _ _ _ _; rw [HCP.out]; exact hl5
     have HR5:=hide hr5
     have HB5:Hid (Below w2.heap.size w2 w5):=HB4.out.trans hb5
     clear hr5 hl5 hb5
     generalize a.raws[k].1=F at *
     generalize a.raws[k].2.1=T at *
     go_wp2_with fail
     refine kept_appendR_intro _ _ (.slice p4 ((curL (f,t,d) (a.raws.take k)).length+1) c4) (.slice (some ⟨w4.heap.size,0,none⟩) 1 1) (.slice p5 ((curL (f,t,d) (a.raws.take k)++[(f,t,d)]).length+1) c5) (w':=w5) (by rfl) (by rfl) (by with_reducible exact HR5.out) ?_
     go_wp2_with fail
     exact ⟨⟨k+1,by omega,by go_num,by rw [HPS.out],(by have h9:=HL5; rw [List.length_append] at h9; exact h9),HB5⟩,by simp [intOf]; omega⟩
    ·have HCP:=hide (curL_stay (f,t,d) a.raws[k] (a.raws.take k) (.inr hgt))
     rw [← htk] at HCP
     rw [decide_eq_false (show ¬ (f,t,d).2.1 < a.raws[k].2.1 from hgt),Bool.false_or] at HPS
     have hgd:decide (t < a.raws[k].2.1)=false:=decide_eq_false hgt
     clear htk hgt
     go_wp2_with fail
     go_quiet (fail)
     have hbd:Below wr.heap.size wr (wr.drewN nq):=below_drewN (Below.refl _ _) nq
     have HLD:=hide (HL.out.later hbd)
     have HBD:=hide (below_drewN HB.out nq)
     generalize wr.drewN nq=wd at *
     obtain ⟨y0,y1,y2,y6⟩:=HE.out wd HBD.out
     obtain ⟨hgw,r0,r1,r2⟩:=HCC.out wd HBD.out
     clear hbd
     obtain ⟨p5,c5,w5,hr5,hl5,hb5⟩:=HLD.out.snoc (f:=a.raws[k].1) (t:=a.raws[k].2.1) (ds:=a.raws[k].2.2) HBD.out HU6.out (by have:=HLN.out; omega)
     have HL5:Hid (LRaws w2 B w5 (.slice p5 ((curL (f,t,d) (a.raws.take k)).length+1) c5) (curL (f,t,d) (a.raws.take (k+1)))):=by show LRaws _ _ _ _ _; rw [HCP.out]; exact hl5
     have HR5:=hide hr5
     have HB5:Hid (Below w2.heap.size w2 w5):=HBD.out.trans hb5
     clear hr5 hl5 hb5
     generalize a.raws[k].1=F at *
     generalize a.raws[k].2.1=T at *
     go_wp2_with fail
     refine kept_appendR_intro _ _ u4 (.slice (some ⟨wd.heap.size,0,none⟩) 1 1) (.slice p5 ((curL (f,t,d) (a.raws.take k)).length+1) c5) (w':=w5) (by rfl) (by rfl) (by with_reducible exact HR5.out) ?_
     go_wp2_with fail
     exact ⟨⟨k+1,by omega,by go_num,by rw [HPS.out],HL5,HB5⟩,by simp [intOf]; omega⟩
   ·rw [hp,Bool.true_or] at HPS
    have HCP:=hide (curL_stay (f,t,d) a.raws[k] (a.raws.take k) (.inl hp))
    rw [← htk] at HCP
    clear htk
    go_wp2_with fail
    go_quiet (fail)
    have hbd:Below wr.heap.size wr (wr.drewN nq):=below_drewN (Below.refl _ _) nq
    have HLD:=hide (HL.out.later hbd)
    have HBD:=hide (below_drewN HB.out nq)
    generalize wr.drewN nq=wd at *
    obtain ⟨y0,y1,y2,y6⟩:=HE.out wd HBD.out
    obtain ⟨hgw,r0,r1,r2⟩:=HCC.out wd HBD.out
    clear hbd
    obtain ⟨p5,c5,w5,hr5,hl5,hb5⟩:=HLD.out.snoc (f:=a.raws[k].1) (t:=a.raws[k].2.1) (ds:=a.raws[k].2.2) HBD.out HU6.out (by have:=HLN.out; omega)
    have HL5:Hid (LRaws w2 B w5 (.slice p5 ((curL (f,t,d) (a.raws.take k)).length+1) c5) (curL (f,t,d) (a.raws.take (k+1)))):=by show LRaws _ _ _ _ _; rw [HCP.out]; exact hl5
    have HR5:=hide hr5
    have HB5:Hid (Below w2.heap.size w2 w5):=HBD.out.trans hb5
    clear hr5 hl5 hb5
    generalize a.raws[k].1=F at *
    generalize a.raws[k].2.1=T at *
    go_wp2_with fail
    refine kept_appendR_intro _ _ u4 (.slice (some ⟨wd.heap.size,0,none⟩) 1 1) (.slice p5 ((curL (f,t,d) (a.raws.take k)).length+1) c5) (w':=w5) (by rfl) (by rfl) (by with_reducible exact HR5.out) ?_
    go_wp2_with fail
    exact ⟨⟨k+1,by omega,by go_num,by rw [HPS.out],HL5,HB5⟩,by simp [intOf]; omega⟩
  ·have hkm:a.raws.take k=a.raws:=List.take_of_length_le (by have:=HM.out; omega)
   rw [hkm] at HL
   have HCE:=hide (curL_end (f,t,d) a.raws)
   have hlk:a.raws.length≤5000:=by have:=HM.out; omega
   have HLN:=hide (curL_len (f,t,d) a.raws)
   rw [hkm]
   cases hp:plcR (f,t,d) a.raws
   ·rw [hp] at HCE
    simp only [Bool.false_eq_true,if_false] at HCE
    obtain ⟨p4,c4,w4,hr4,hl4,hb4⟩:=HL.out.snoc (f:=f) (t:=t) (ds:=d) HB.out HU2.out (by have:=HLN.out; omega)
    have HL4:=hide hl4
    have HR4:=hide hr4
    have HB4:Hid (Below w2.heap.size w2 w4):=HB.out.trans hb4
    clear hr4 hl4 hb4
    go_wp2_with fail
    refine kept_appendR_intro _ _ u4 (.slice (some ⟨wr.heap.size,0,none⟩) 1 1) (.slice p4 ((curL (f,t,d) a.raws).length+1) c4) (w':=w4) (by rfl) (by rfl) (by with_reducible exact HR4.out) ?_
    have HX4:=hide (HX2.out.later HB4.out)
    have hxf:=HX4.out.fz 6
    obtain ⟨y0,y1,y2,y6⟩:=HE.out w4 HB4.out
    go_wp2
    go_end0
    refine ⟨rfl,?_,?_⟩
    ·refine HX4.out.set 6 _ rfl rfl rfl rfl rfl rfl ⟨p4,c4,?_,?_⟩
     ·rw [HCE.out,List.length_append]; rfl
     ·rw [HCE.out]; exact HL4.out.own HB4.out hw2s
    ·exact (Keeps.of_below (HB2.out.trans (HB4.out.mono HB2.out.size)) _).setCell X 6 _ (.inl rfl)
   ·rw [hp] at HCE
    simp only [if_true] at HCE
    have HX4:=hide (HX2.out.later HB.out)
    have hxf:=HX4.out.fz 6
    obtain ⟨cs,hoc,_⟩:=HL.out
    obtain ⟨p4,c4,e4⟩:=own_shape hoc
    subst e4
    clear hoc
    go_wp2
    go_end0
    refine ⟨rfl,?_,?_⟩
    ·refine HX4.out.set 6 _ rfl rfl rfl rfl rfl rfl ⟨p4,c4,?_,?_⟩
     ·rw [HCE.out]
     ·rw [HCE.out]; exact HL.out.own HB.out hw2s
    ·exact (Keeps.of_below (HB2.out.trans (HB.out.mono HB2.out.size)) _).setCell X 6 _ (.inl rfl)
end
def KnRes (X B:Nat)(w w':World)(r:Res)(e:Ending):Prop :=
 match r with
 | .inl n=>∃ a9 c9,e=.returned (.agg #[.int .i64 3,.int .i64 (n.2.1:Int),.slice a9 n.2.2.length c9])∧w'.ownsRow w.heap.size 5 1 (.slice a9 n.2.2.length c9) n.2.2.length (bcells n.2.2)∧Keeps (NotBox X B) w w'
 | .inr a'=>e=.returned (.agg #[.int .i64 0,.int .i64 0,.slice none 0 0])∧Box w' X B a'∧Keeps (NotBox X B) w w'
def knW (w:World):World:=((w.alloc (.cells #[.int .i64 0,.int .i64 0,.slice none 0 0] 38)).alloc (.cells #[.int .i64 0,.int .i64 64,.int .i64 64,.int .i64 64,.int .i64 128,.int .i64 64,.int .i64 64,.int .i64 192,.int .i64 192] 3)).alloc (.cells #[.int .i64 0,.int .i64 1,.int .i64 (-1),.int .i64 4,.int .i64 4,.int .i64 4,.int .i64 0,.int .i64 8,.int .i64 (-1)] 3)
theorem knW_below (w:World):Below w.heap.size w (knW w):=(((Below.refl _ _).alloc (Nat.le_refl _) _).alloc (by simp) _).alloc (by simp; omega) _
theorem knW_size (w:World):(knW w).heap.size=w.heap.size+1+1+1:=by unfold knW; simp
theorem knW_block (w:World):(knW w).heap[w.heap.size]?=some (.cells #[.int .i64 0,.int .i64 0,.slice none 0 0] 38 (0,0)):=by
 unfold knW
 rw [heap_alloc_old _ _ (by simp; omega),heap_alloc_old _ _ (by simp)]
 exact heap_alloc_new _ _
theorem byte_lt {b:List Nat}(hb:∀ x∈b,x < 256)(i:Nat):b.getD i 0 < 256:=by
 rw [List.getD_eq_getElem?_getD]
 cases h:b[i]? with
 | none=>decide
 | some x=>exact hb x (List.mem_of_getElem? h)
structure NB (w W:World):Prop where
 c0:W.cell? ⟨w.heap.size,0,none⟩=some (.int .i64 0)
 c1:W.cell? ⟨w.heap.size,1,none⟩=some (.int .i64 0)
 c2:W.cell? ⟨w.heap.size,2,none⟩=some (.slice none 0 0)
 f0:W.frozen? ⟨w.heap.size,0,none⟩=false
 f1:W.frozen? ⟨w.heap.size,1,none⟩=false
 f2:W.frozen? ⟨w.heap.size,2,none⟩=false
theorem nb_of {w W:World}(h:W.heap[w.heap.size]?=some (.cells #[.int .i64 0,.int .i64 0,.slice none 0 0] 38 (0,0))):NB w W:=by
 refine ⟨?_,?_,?_,?_,?_,?_⟩ <;> simp [World.cell?,World.frozen?,h]
theorem nb_zero {w W:World}(h:W.heap[w.heap.size]?=some (.cells #[.int .i64 0,.int .i64 0,.slice none 0 0] 38 (0,0))):((W.setCell ⟨w.heap.size,0,none⟩ (.int .i64 0)).setCell ⟨w.heap.size,1,none⟩ (.int .i64 0)).setCell ⟨w.heap.size,2,none⟩ (.slice none 0 0)=W:=by
 have k:∀ j v,#[Value.int .i64 0,.int .i64 0,.slice none 0 0].setIfInBounds j v=#[Value.int .i64 0,.int .i64 0,.slice none 0 0]→W.setCell ⟨w.heap.size,j,none⟩ v=W:=fun j v e=>by
  rw [setCell_eq_setRow W _ _ _ _ _ _ h,e,setRow_self W _ _ _ _ h]
 rw [k 0 _ rfl,k 1 _ rfl,k 2 _ rfl]
theorem nb_block {w W:World}(hb:Below (knW w).heap.size (knW w) W):W.heap[w.heap.size]?=some (.cells #[.int .i64 0,.int .i64 0,.slice none 0 0] 38 (0,0)):=by rw [hb.block _ (by rw [knW_size]; omega)]; exact knW_block w
theorem nb_later {w W:World}(hb:Below (knW w).heap.size (knW w) W):NB w W:=nb_of (by rw [hb.block _ (by rw [knW_size]; omega)]; exact knW_block w)
set_option linter.unusedVariables false
set_option maxHeartbeats 3200000 in
theorem kn_ok1 (fl:Nat)(X B:Nat)(a:At)(da:Option Addr)(dn dc:Nat)(la:Option Addr)(ln lc:Nat)(d all:List Nat)(w:World)(hf:fl < 256)(hX:Box w X B a)(hB:B≤w.heap.size)(hdn:d.length=dn)(hdc:dn≤dc)(hrd:BRd w da d)(h1:((fl:Int) / 64 * 64 != 64)=false)(h2:((fl:Int) / 32 % 2 == 1)=false)(hd1:dn=1)(h2x:decide ((2:Int) < (d.getD 0 0:Nat))=false) :
  Calls Tryz.prog 50 #[.pointer (some ⟨X,0,none⟩),.int .i64 (fl:Int),.int .i64 1,.slice da dn dc,.slice la ln lc] w fun e w'=>e=.returned (.agg #[.int .i64 0,.int .i64 0,.slice none 0 0])∧Box w' X B ({ a with origin:=((d.getD 0 0:Nat):Int) })∧Keeps (NotBox X B) w w':=by
 have hXl:=hX.pos
 have hXB:=hX.lt
 have HX:=hide (hX.later (knW_below w))
 have HD:=hide (hrd.below (knW_below w))
 have HDN:=hide hdn
 have hks:=knW_size w
 have hXN:X < (knW w).heap.size:=by omega
 have HBK0:=hide (knW_block w)
 obtain ⟨b,o,rfl,hc⟩:=HD.out.1.2 (by rw [hdn]; omega)
 obtain ⟨x,hx⟩:∃ x,x=d.getD 0 0:=⟨_,rfl⟩
 have y0:(knW w).cell? ⟨b,o,none⟩=some (.int .u8 (x:Int)):=by rw [hx]; exact hc 0 (by rw [hdn]; omega)
 rw [← hx] at h2x ⊢
 have hx256:x < 256:=by rw [hx]; exact byte_lt HD.out.2 0
 have r0:=HX.out.c0
 have fz:=HX.out.fz 0
 subst hd1
 have HBK:Hid (((knW w).setCell ⟨X,0,none⟩ (.int .i64 (x:Int))).heap[w.heap.size]?=some (.cells #[.int .i64 0,.int .i64 0,.slice none 0 0] 38 (0,0))):=by show _=_; rw [heap_setCell _ _ _ _ _ (by omega)]; exact HBK0.out
 have HBX:Hid (Box ((knW w).setCell ⟨X,0,none⟩ (.int .i64 (x:Int))) X B { a with origin:=(x:Int) }):=HX.out.set 0 _ rfl rfl rfl rfl rfl rfl rfl
 have HKP:Hid (Keeps (NotBox X B) w ((knW w).setCell ⟨X,0,none⟩ (.int .i64 (x:Int)))):=(keeps_box (knW_below w)).setCell X 0 _ (.inl (.inl rfl))
 obtain ⟨c0,c1,c2,f0,f1,f2⟩:=nb_of HBK.out
 clear hX hrd hc hx hks hdn hXB
 go_enter Tryz.func50,Tryz.ntmps50
 go_upto_if 38 with fail
 have hk:((w.alloc (.cells #[.int .i64 0,.int .i64 0,.slice none 0 0] 38)).alloc (.cells #[.int .i64 0,.int .i64 64,.int .i64 64,.int .i64 64,.int .i64 128,.int .i64 64,.int .i64 64,.int .i64 192,.int .i64 192] 3)).alloc (.cells #[.int .i64 0,.int .i64 1,.int .i64 (-1),.int .i64 4,.int .i64 4,.int .i64 4,.int .i64 0,.int .i64 8,.int .i64 (-1)] 3)=knW w:=rfl
 rw [hk]
 clear hk
 go_wp2_with fail
 exact bodyPost_ret (v:=.agg #[.int .i64 0,.int .i64 0,.slice none 0 0]) (by simp [results,Tryz.results50,go_sem,c0,c1,c2]) rfl ⟨rfl,by rw [nb_zero HBK.out]; exact HBX.out,by rw [nb_zero HBK.out]; exact HKP.out⟩
set_option maxHeartbeats 3200000 in
theorem kn_no1 (fl:Nat)(X B:Nat)(a:At)(da:Option Addr)(dn dc:Nat)(la:Option Addr)(ln lc:Nat)(d all:List Nat)(w:World)(hf:fl < 256)(hX:Box w X B a)(hB:B≤w.heap.size)(hdn:d.length=dn)(hdc:dn≤dc)(hrd:BRd w da d)(hl:all.length=ln)(hln:ln≤60000)(hr:BRd w la all)(h1:((fl:Int) / 64 * 64 != 64)=false)(h2:((fl:Int) / 32 % 2 == 1)=false)(hd1:dn=1)(h2x:(2:Int) < (d.getD 0 0:Nat)) :
  Calls Tryz.prog 50 #[.pointer (some ⟨X,0,none⟩),.int .i64 (fl:Int),.int .i64 1,.slice da dn dc,.slice la ln lc] w fun e w'=>∃ a9 c9,e=.returned (.agg #[.int .i64 3,.int .i64 6,.slice a9 ln c9])∧w'.ownsRow w.heap.size 5 1 (.slice a9 ln c9) ln (bcells all)∧Keeps (NotBox X B) w w':=by
 have KN:=hide (note_any 3 6 la lc all (knW w) (by omega) (hr.below (knW_below w)))
 rw [hl] at KN
 clear hr hl
 have hXl:=hX.pos
 have hXB:=hX.lt
 have HX:=hide (hX.later (knW_below w))
 have HD:=hide (hrd.below (knW_below w))
 have HDN:=hide hdn
 have hks:=knW_size w
 have hXN:X < (knW w).heap.size:=by omega
 have HBK0:=hide (knW_block w)
 obtain ⟨b,o,rfl,hc⟩:=HD.out.1.2 (by rw [hdn]; omega)
 obtain ⟨x,hx⟩:∃ x,x=d.getD 0 0:=⟨_,rfl⟩
 have y0:(knW w).cell? ⟨b,o,none⟩=some (.int .u8 (x:Int)):=by rw [hx]; exact hc 0 (by rw [hdn]; omega)
 rw [← hx] at h2x
 subst hd1
 clear hX hrd hc hx hks hdn hXB
 go_enter Tryz.func50,Tryz.ntmps50
 go_upto_if 38 with fail
 have hk:((w.alloc (.cells #[.int .i64 0,.int .i64 0,.slice none 0 0] 38)).alloc (.cells #[.int .i64 0,.int .i64 64,.int .i64 64,.int .i64 64,.int .i64 128,.int .i64 64,.int .i64 64,.int .i64 192,.int .i64 192] 3)).alloc (.cells #[.int .i64 0,.int .i64 1,.int .i64 (-1),.int .i64 4,.int .i64 4,.int .i64 4,.int .i64 0,.int .i64 8,.int .i64 (-1)] 3)=knW w:=rfl
 rw [hk]
 clear hk
 go_wp2_with fail
 refine KN.out.mono ?_
 rintro e w4 ⟨a9,c9,rfl,ho4,hb4⟩
 have HO4:=hide ho4
 have HBK:=hide (nb_block hb4)
 have HKP:Hid (Keeps (NotBox X B) w w4):=keeps_box ((knW_below w).trans (hb4.mono (knW_below w).size))
 have hz:w.heap.size < (knW w).heap.size:=by rw [knW_size]; omega
 have HZ:=hide hz
 clear ho4 hb4 hz
 obtain ⟨c0,c1,c2,f0,f1,f2⟩:=nb_of HBK.out
 go_wp2_with fail
 exact bodyPost_ret (v:=.agg #[.int .i64 3,.int .i64 6,.slice a9 ln c9]) (by simp [results,Tryz.results50,go_sem,c0,c1,c2]) rfl ⟨a9,c9,rfl,own_base (own_under (own_under (own_under HO4.out HZ.out _ _) HZ.out _ _) HZ.out _ _) (Nat.le_of_lt HZ.out),((HKP.out.setCell w.heap.size 0 _ (.inr (Nat.le_refl _))).setCell w.heap.size 1 _ (.inr (Nat.le_refl _))).setCell w.heap.size 2 _ (.inr (Nat.le_refl _))⟩
set_option linter.unusedVariables false
set_option maxHeartbeats 3200000 in
theorem kn_ok2 (fl:Nat)(X B:Nat)(a:At)(da:Option Addr)(dn dc:Nat)(la:Option Addr)(ln lc:Nat)(d all:List Nat)(w:World)(hf:fl < 256)(hX:Box w X B a)(hB:B≤w.heap.size)(hdn:d.length=dn)(hdc:dn≤dc)(hrd:BRd w da d)(h1:((fl:Int) / 64 * 64 != 64)=false)(h2:((fl:Int) / 32 % 2 == 1)=false)(hdl:dn≤10000)(p:List (Bool×List Int))(hsg:segsRun (fun q=>d.getD q 0) dn 0 []=some p) :
  Calls Tryz.prog 50 #[.pointer (some ⟨X,0,none⟩),.int .i64 (fl:Int),.int .i64 2,.slice da dn dc,.slice la ln lc] w fun e w'=>e=.returned (.agg #[.int .i64 0,.int .i64 0,.slice none 0 0])∧Box w' X B ({ a with path:=p })∧Keeps (NotBox X B) w w':=by
 have hXl:=hX.pos
 have hXB:=hX.lt
 have HX:=hide (hX.later (knW_below w))
 have HD:=hide (hrd.below (knW_below w))
 have HDN:=hide hdn
 have hks:=knW_size w
 have hXN:X < (knW w).heap.size:=by omega
 have HBK0:=hide (knW_block w)
 have KP:=hide (readp_any da dn dc (fun q=>d.getD q 0) (knW w) (by omega) hdc (fun j _=>byte_lt HD.out.2 j) (by have h9:=HD.out.1; rw [hdn] at h9; exact h9))
 rw [hsg] at KP
 have HBB:=hide hB
 clear hX hrd hdn
 go_enter Tryz.func50,Tryz.ntmps50
 go_upto_if 38 with fail
 have hk:((w.alloc (.cells #[.int .i64 0,.int .i64 0,.slice none 0 0] 38)).alloc (.cells #[.int .i64 0,.int .i64 64,.int .i64 64,.int .i64 64,.int .i64 128,.int .i64 64,.int .i64 64,.int .i64 192,.int .i64 192] 3)).alloc (.cells #[.int .i64 0,.int .i64 1,.int .i64 (-1),.int .i64 4,.int .i64 4,.int .i64 4,.int .i64 0,.int .i64 8,.int .i64 (-1)] 3)=knW w:=rfl
 rw [hk]
 clear hk
 go_wp2_with fail
 refine KP.out.mono ?_
 rintro e w4 ⟨⟨v,rfl,hop⟩,hb4⟩
 obtain ⟨pp,pc,rfl⟩:=own_path_shape hop
 have HX4:=hide (HX.out.later hb4)
 obtain ⟨p1,k1,r1,_⟩:=HX4.out.c1
 have fz:=HX4.out.fz 1
 have HBX:Hid (Box (w4.setCell ⟨X,1,none⟩ (.slice pp p.length pc)) X B { a with path:=p }):=HX4.out.set 1 _ rfl ⟨pp,pc,rfl,hop.base (by omega)⟩ rfl rfl rfl rfl rfl
 have HBK:Hid ((w4.setCell ⟨X,1,none⟩ (.slice pp p.length pc)).heap[w.heap.size]?=some (.cells #[.int .i64 0,.int .i64 0,.slice none 0 0] 38 (0,0))):=by show _=_; rw [heap_setCell _ _ _ _ _ (by omega)]; exact nb_block hb4
 have HKP:Hid (Keeps (NotBox X B) w (w4.setCell ⟨X,1,none⟩ (.slice pp p.length pc))):=(keeps_box ((knW_below w).trans (hb4.mono (knW_below w).size))).setCell X 1 _ (.inl (.inl rfl))
 obtain ⟨c0,c1,c2,f0,f1,f2⟩:=nb_of HBK.out
 have hX4:X < w4.heap.size:=HX4.out.pos
 generalize p.length=pl at *
 clear hop hb4 hks hXB
 go_wp2_with fail
 exact bodyPost_ret (v:=.agg #[.int .i64 0,.int .i64 0,.slice none 0 0]) (by simp [results,Tryz.results50,go_sem,c0,c1,c2]) rfl ⟨rfl,by rw [nb_zero HBK.out]; exact HBX.out,by rw [nb_zero HBK.out]; exact HKP.out⟩
set_option maxHeartbeats 3200000 in
theorem kn_no2 (fl:Nat)(X B:Nat)(a:At)(da:Option Addr)(dn dc:Nat)(la:Option Addr)(ln lc:Nat)(d all:List Nat)(w:World)(hf:fl < 256)(hX:Box w X B a)(hB:B≤w.heap.size)(hdn:d.length=dn)(hdc:dn≤dc)(hrd:BRd w da d)(h1:((fl:Int) / 64 * 64 != 64)=false)(h2:((fl:Int) / 32 % 2 == 1)=false)(hdl:dn≤10000)(hsg:segsRun (fun q=>d.getD q 0) dn 0 []=none) :
  Calls Tryz.prog 50 #[.pointer (some ⟨X,0,none⟩),.int .i64 (fl:Int),.int .i64 2,.slice da dn dc,.slice la ln lc] w fun e w'=>∃ a9 c9,e=.returned (.agg #[.int .i64 3,.int .i64 11,.slice a9 0 c9])∧w'.ownsRow w.heap.size 5 1 (.slice a9 0 c9) 0 (bcells ([]:List Nat))∧Keeps (NotBox X B) w w':=by
 have hXl:=hX.pos
 have hXB:=hX.lt
 have HX:=hide (hX.later (knW_below w))
 have HD:=hide (hrd.below (knW_below w))
 have HDN:=hide hdn
 have hks:=knW_size w
 have hXN:X < (knW w).heap.size:=by omega
 have HBK0:=hide (knW_block w)
 have KP:=hide (readp_any da dn dc (fun q=>d.getD q 0) (knW w) (by omega) hdc (fun j _=>byte_lt HD.out.2 j) (by have h9:=HD.out.1; rw [hdn] at h9; exact h9))
 rw [hsg] at KP
 have HBB:=hide hB
 clear hX hrd hdn
 go_enter Tryz.func50,Tryz.ntmps50
 go_upto_if 38 with fail
 have hk:((w.alloc (.cells #[.int .i64 0,.int .i64 0,.slice none 0 0] 38)).alloc (.cells #[.int .i64 0,.int .i64 64,.int .i64 64,.int .i64 64,.int .i64 128,.int .i64 64,.int .i64 64,.int .i64 192,.int .i64 192] 3)).alloc (.cells #[.int .i64 0,.int .i64 1,.int .i64 (-1),.int .i64 4,.int .i64 4,.int .i64 4,.int .i64 0,.int .i64 8,.int .i64 (-1)] 3)=knW w:=rfl
 rw [hk]
 clear hk
 go_wp2_with fail
 refine KP.out.mono ?_
 rintro e w3 ⟨rfl,hb3⟩
 have HB3:=hide hb3
 clear hb3
 go_wp2_with fail
 refine (note_any 3 11 none 0 [] w3 (by simp) (brd_none w3 none)).mono ?_
 rintro e w4 ⟨a9,c9,rfl,ho4,hb4⟩
 have hb34:Below (knW w).heap.size (knW w) w4:=HB3.out.trans (hb4.mono HB3.out.size)
 have HO4:=hide (own_base ho4 HB3.out.size)
 have HBK:=hide (nb_block hb34)
 have HKP:Hid (Keeps (NotBox X B) w w4):=keeps_box ((knW_below w).trans (hb34.mono (knW_below w).size))
 have hz:w.heap.size < (knW w).heap.size:=by rw [knW_size]; omega
 have HZ:=hide hz
 clear ho4 hb4 hz hb34
 obtain ⟨c0,c1,c2,f0,f1,f2⟩:=nb_of HBK.out
 go_wp2_with fail
 exact bodyPost_ret (v:=.agg #[.int .i64 3,.int .i64 11,.slice a9 0 c9]) (by simp [results,Tryz.results50,go_sem,c0,c1,c2]) rfl ⟨a9,c9,rfl,own_base (own_under (own_under (own_under HO4.out HZ.out _ _) HZ.out _ _) HZ.out _ _) (Nat.le_of_lt HZ.out),((HKP.out.setCell w.heap.size 0 _ (.inr (Nat.le_refl _))).setCell w.heap.size 1 _ (.inr (Nat.le_refl _))).setCell w.heap.size 2 _ (.inr (Nat.le_refl _))⟩
end Go.Proofs.YtogbjeaceboemaaGreatDoor
