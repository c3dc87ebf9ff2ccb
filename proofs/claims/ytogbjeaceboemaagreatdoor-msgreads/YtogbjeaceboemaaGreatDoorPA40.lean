import Derived.Test.YtogbjeaceboemaaGreatDoorPA0
import Derived.Deep.QuietTactic
import Derived.BigQuiet
import Derived.Test.YtogbjeaceboemaaGreatDoorPA4
namespace Go.Proofs.YtogbjeaceboemaaGreatDoor
open Go.RowKit
set_option maxRecDepth 100000
def eqP (p q:List (Bool×List Int)):Bool:=decide (p=q)
theorem eqP_no {p q:List (Bool×List Int)}(h:p≠q):eqP p q=false:=decide_eq_false h
set_option maxHeartbeats 400000 in
theorem samepath_len (a1 a2:Option Addr)(n1 n2 c1 c2:Nat)(w:World)(h:n1≠n2):Calls Tryz.prog 52 #[.slice a1 n1 c1,.slice a2 n2 c2] w fun e w'=>e=.returned (.bool false)∧∃ m,w'=w.drewN m:=by
 have e0:((n1:Int) != (n2:Int))=true:=by simp; omega
 clear h
 go_enter Tryz.func52,Tryz.ntmps52
 go_wp2
 go_ret
 exact ⟨rfl,0,rfl⟩
set_option maxHeartbeats 400000 in
theorem samepath_empty (a1 a2:Option Addr)(c1 c2:Nat)(w:World):Calls Tryz.prog 52 #[.slice a1 0 c1,.slice a2 0 c2] w fun e w'=>e=.returned (.bool true)∧∃ m,w'=w.drewN m:=by
 go_enter Tryz.func52,Tryz.ntmps52
 go_wp2
 go_loopw [5] (fun i wq=>i=.int .i64 0∧wq=w) (fun i _=>0 - (intOf i).toNat)
 case atStart=>exact ⟨rfl,rfl⟩
 case round =>
  obtain ⟨rfl,rfl⟩:=hrel
  go_wp2
  go_ret
  exact ⟨rfl,0,rfl⟩
set_option maxHeartbeats 3200000 in
theorem samepath_some (g1 o1 g2 o2 n c1 c2:Nat)(p q:List (Bool×List Int))(w:World)(hp:p.length=n)(hq:q.length=n)(hs:n+sumP p≤100000)(hs2:sumP q≤100000)
  (h1:∀ i s,p[i]?=some s→w.cell? ⟨g1,o1+i * 2,none⟩=some (.bool s.1)∧∃ a' c',w.cell? ⟨g1,o1+i * 2+1,none⟩=some (.slice a' s.2.length c')∧IRd w a' s.2)
  (h2:∀ i s,q[i]?=some s→w.cell? ⟨g2,o2+i * 2,none⟩=some (.bool s.1)∧∃ a' c',w.cell? ⟨g2,o2+i * 2+1,none⟩=some (.slice a' s.2.length c')∧IRd w a' s.2) :
  Calls Tryz.prog 52 #[.slice (some ⟨g1,o1,none⟩) n c1,.slice (some ⟨g2,o2,none⟩) n c2] w fun e w'=>e=.returned (.bool (eqP p q))∧∃ m,w'=w.drewN m:=by
 have H1:=hide h1
 have H2:=hide h2
 have HP:=hide hp
 have HQ:=hide hq
 clear h1 h2 hp hq
 go_enter Tryz.func52,Tryz.ntmps52
 go_wp2
 go_loopw [5] (fun i wq=>∃ k m:Nat,k≤n∧i=.int .i64 k∧Hid (wq=w.drewN m)∧Hid (p.take k=q.take k)) (fun i _=>n - (intOf i).toNat)
 case atStart=>exact ⟨0,0,Nat.zero_le _,rfl,rfl,rfl⟩
 case round =>
  obtain ⟨k,m,hk,rfl,HW,HT⟩:=hrel
  by_cases hlt:k < n
  ·have hkp:k < p.length:=by rw [HP.out]; exact hlt
   have hkq:k < q.length:=by rw [HQ.out]; exact hlt
   obtain ⟨x0,a1,d1,x1,r1⟩:=H1.out k p[k] (List.getElem?_eq_getElem hkp)
   obtain ⟨y0,a2,d2,y1,r2⟩:=H2.out k q[k] (List.getElem?_eq_getElem hkq)
   have u0:wr.cell? ⟨g1,o1+k * 2,none⟩=some (.bool (p[k]).1):=by rw [HW.out,cell_drewN]; exact x0
   have u1:wr.cell? ⟨g1,o1+k * 2+1,none⟩=some (.slice a1 (p[k]).2.length d1):=by rw [HW.out,cell_drewN]; exact x1
   have v0:wr.cell? ⟨g2,o2+k * 2,none⟩=some (.bool (q[k]).1):=by rw [HW.out,cell_drewN]; exact y0
   have v1:wr.cell? ⟨g2,o2+k * 2+1,none⟩=some (.slice a2 (q[k]).2.length d2):=by rw [HW.out,cell_drewN]; exact y1
   have X1:=hide x1
   have Y1:=hide y1
   have R1:=hide r1
   have R2:=hide r2
   clear x0 x1 y0 y1 r1 r2
   have HNE:Hid (p[k]≠q[k]→eqP p q=false):=fun h=>eqP_no (fun e=>h (by subst e; rfl))
   have HTK:Hid (p[k]=q[k]→p.take (k+1)=q.take (k+1)):=fun h=>by rw [List.take_succ_eq_append_getElem hkp,List.take_succ_eq_append_getElem hkq,HT.out,h]
   have hl1:(p[k]).2.length≤100000:=by have:=sumP_mem p _ (List.getElem_mem hkp); omega
   have hl2:(q[k]).2.length≤100000:=by have:=sumP_mem q _ (List.getElem_mem hkq); omega
   generalize p[k]=s at *
   generalize q[k]=t at *
   obtain ⟨b1,zs⟩:=s
   obtain ⟨b2,ys⟩:=t
   simp only at u0 u1 v0 v1 X1 Y1 R1 R2 hl1 hl2
   have hk0:(0:Int)≤(k:Int):=Int.natCast_nonneg _
   have hk1:(k:Int) < (n:Int):=by omega
   by_cases hb:b1=b2
   ·subst hb
    have eb:(b1 != b1)=false:=by simp
    by_cases hl:zs.length=ys.length
    ·have el:((zs.length:Int) != (ys.length:Int))=false:=by rw [hl]; simp
     generalize hll:ys.length=l at *
     have HLL:=hide hll
     clear hll
     have HL:=hide hl
     have hl9:l≤100000:=hl2
     rw [hl] at u1 el X1 hl1
     clear hl
     go_wp2_with fail
     go_quiet (fail)
     go_wp2
     go_loopw [6] (fun i wq=>∃ j m2:Nat,j≤l∧i=.int .i64 j∧Hid (wq=w.drewN m2)∧Hid (zs.take j=ys.take j)) (fun i _=>l - (intOf i).toNat)
     case atStart=>exact ⟨0,m+nq,Nat.zero_le _,rfl,show wr.drewN nq=_ by rw [HW.out,drewN_more],rfl⟩
     case round =>
      obtain ⟨j,m2,hj,rfl,HW2,HJ⟩:=hrel
      have u1:wr.cell? ⟨g1,o1+k * 2+1,none⟩=some (.slice a1 l d1):=by rw [HW2.out,cell_drewN]; exact X1.out
      have v1:wr.cell? ⟨g2,o2+k * 2+1,none⟩=some (.slice a2 l d2):=by rw [HW2.out,cell_drewN]; exact Y1.out
      by_cases hlj:j < l
      ·have hjz:j < zs.length:=by rw [HL.out]; exact hlj
       have hjy:j < ys.length:=by rw [HLL.out]; exact hlj
       obtain ⟨f1,e1,rfl,hz1⟩:=R1.out (by omega)
       obtain ⟨f2,e2,rfl,hz2⟩:=R2.out (by omega)
       have cz:wr.cell? ⟨f1,e1+j,none⟩=some (.int .i64 zs[j]):=by rw [HW2.out,cell_drewN]; exact hz1 j _ (List.getElem?_eq_getElem hjz)
       have cy:wr.cell? ⟨f2,e2+j,none⟩=some (.int .i64 ys[j]):=by rw [HW2.out,cell_drewN]; exact hz2 j _ (List.getElem?_eq_getElem hjy)
       have HJN:Hid (zs[j]≠ys[j]→eqP p q=false):=fun h=>HNE.out (fun e=>h (by injection e with _ e3; subst e3; rfl))
       have HJT:Hid (zs[j]=ys[j]→zs.take (j+1)=ys.take (j+1)):=fun h=>by rw [List.take_succ_eq_append_getElem hjz,List.take_succ_eq_append_getElem hjy,HJ.out,h]
       clear hz1 hz2
       generalize zs[j]=z at *
       generalize ys[j]=y at *
       have hj0:(0:Int)≤(j:Int):=Int.natCast_nonneg _
       have hj1:(j:Int) < (l:Int):=by omega
       by_cases hzy:z=y
       ·have HJ2:=hide (HJT.out hzy)
        have ez:(z != y)=false:=by rw [hzy]; simp
        clear hzy
        go_wp2_with fail
        go_quiet (fail)
        go_wp2
        exact ⟨⟨j+1,m2+nq,by omega,by go_num,show wr.drewN nq=_ by rw [HW2.out,drewN_more],HJ2⟩,by simp [intOf]; omega⟩
       ·have HG:=hide (HJN.out hzy)
        have ez:(z != y)=true:=by simpa using hzy
        clear hzy
        go_wp2_with fail
        go_quiet (fail)
        go_wp2
        go_ret
        exact ⟨ret_bool HG.out.symm,m2+nq,show wr.drewN nq=_ by rw [HW2.out,drewN_more]⟩
      ·have HT2:Hid (p.take (k+1)=q.take (k+1)):=HTK.out (by
        have:=HJ.out
        rw [List.take_of_length_le (by rw [HL.out]; omega),List.take_of_length_le (by rw [HLL.out]; omega)] at this
        rw [this])
       go_wp2
       exact ⟨⟨k+1,m2,by omega,by go_num,HW2,HT2⟩,by simp [intOf]; omega⟩
    ·have HG:Hid (eqP p q=false):=HNE.out (fun e=>hl (by injection e with _ e2; rw [e2]))
     have el:((zs.length:Int) != (ys.length:Int))=true:=by simp; omega
     clear hl
     go_wp2_with fail
     go_quiet (fail)
     go_wp2
     go_ret
     exact ⟨ret_bool HG.out.symm,m+nq,show wr.drewN nq=_ by rw [HW.out,drewN_more]⟩
   ·have HG:Hid (eqP p q=false):=HNE.out (fun e=>hb (by injection e))
    have eb:(b1 != b2)=true:=by simpa using hb
    go_wp2_with fail
    go_quiet (fail)
    go_wp2
    go_ret
    exact ⟨ret_bool HG.out.symm,m+nq,show wr.drewN nq=_ by rw [HW.out,drewN_more]⟩
  ·have HG:Hid (eqP p q=true):=by
    show eqP p q=true
    have:=HT.out
    rw [List.take_of_length_le (by rw [HP.out]; omega),List.take_of_length_le (by rw [HQ.out]; omega)] at this
    exact decide_eq_true this
   go_wp2
   go_ret
   exact ⟨ret_bool HG.out.symm,m,HW.out⟩
theorem samepath_any (a1 a2:Option Addr)(c1 c2:Nat)(p q:List (Bool×List Int))(w:World)(hs:p.length+sumP p≤100000)(hs2:sumP q≤100000)(h1:PthRd w a1 p)(h2:PthRd w a2 q) :
  Calls Tryz.prog 52 #[.slice a1 p.length c1,.slice a2 q.length c2] w fun e w'=>e=.returned (.bool (eqP p q))∧∃ m,w'=w.drewN m:=by
 by_cases hl:p.length=q.length
 ·by_cases h0:p=[]
  ·subst h0
   have hq:q=[]:=List.length_eq_zero_iff.1 hl.symm
   subst hq
   exact samepath_empty a1 a2 c1 c2 w
  ·obtain ⟨b1,o1,rfl,hc1⟩:=h1.cells (List.length_pos_iff.2 h0)
   obtain ⟨b2,o2,rfl,hc2⟩:=h2.cells (by have:=List.length_pos_iff.2 h0; omega)
   rw [← hl]
   exact samepath_some b1 o1 b2 o2 p.length c1 c2 p q w rfl hl.symm hs hs2 hc1 hc2
 ·rw [eqP_no (fun e=>hl (by rw [e]))]
  exact samepath_len a1 a2 _ _ c1 c2 w hl
def eqHead (a b:At):Bool:=decide (a.origin=b.origin) && eqP a.path b.path && decide (a.next=b.next) && decide (a.med=b.med) && decide (a.pref=b.pref) && decide (a.comms.length=b.comms.length) && decide (a.raws.length=b.raws.length)
def eqA (a b:At):Bool:=eqHead a b && decide (a.comms=b.comms) && decide (a.raws=b.raws)
set_option maxHeartbeats 6400000 in
theorem samea_no (o1:Int)(pa1:Option Addr)(pn1 pc1:Nat)(nx1:Nat)(md1 pf1:Int)(ca1:Option Addr)(cn1 cc1:Nat)(ra1:Option Addr)(rn1 rc1:Nat)(o2:Int)(pa2:Option Addr)(pn2 pc2:Nat)(nx2:Nat)(md2 pf2:Int)(ca2:Option Addr)(cn2 cc2:Nat)(ra2:Option Addr)(rn2 rc2:Nat)(g:Bool)(w:World)
  (KS:Hid (∀ w1,Below w.heap.size w w1→Calls Tryz.prog 52 #[.slice pa1 pn1 pc1,.slice pa2 pn2 pc2] w1 fun e w'=>e=.returned (.bool g)∧∃ m,w'=w1.drewN m))
  (hno:(decide (o1=o2) && g && decide (nx1=nx2) && decide (md1=md2) && decide (pf1=pf2) && decide (cn1=cn2) && decide (rn1=rn2))=false) :
  Calls Tryz.prog 33 #[.agg #[.int .i64 o1,.slice pa1 pn1 pc1,.int .u32 (nx1:Int),.int .i64 md1,.int .i64 pf1,.slice ca1 cn1 cc1,.slice ra1 rn1 rc1],.agg #[.int .i64 o2,.slice pa2 pn2 pc2,.int .u32 (nx2:Int),.int .i64 md2,.int .i64 pf2,.slice ca2 cn2 cc2,.slice ra2 rn2 rc2]] w fun e w'=>e=.returned (.bool false)∧Below w.heap.size w w':=by
 have hbb:∀ p q,Below w.heap.size w ((w.alloc p).alloc q):=fun p q=>((Below.refl _ _).alloc (Nat.le_refl _) _).alloc (by simp) _
 have HNO:=hide hno
 clear hno
 by_cases c1:o1=o2
 ·subst c1
  cases g with
  | false =>
   clear HNO
   go_enter Tryz.func33,Tryz.ntmps33
   go_wp2_with fail
   refine (KS.out _ (hbb _ _)).mono ?_
   rintro e w1 ⟨rfl,m,rfl⟩
   go_wp2
   go_ret
   exact ⟨rfl,below_drewN (hbb _ _) m⟩
  | true =>
   by_cases c2:nx1=nx2
   ·subst c2
    by_cases c3:md1=md2
    ·subst c3
     by_cases c4:pf1=pf2
     ·subst c4
      by_cases c5:cn1=cn2
      ·subst c5
       have c6:rn1≠rn2:=by
        have h9:=HNO.out
        intro e
        subst e
        simp at h9
       have d6:((rn1:Int) != (rn2:Int))=true:=by simp; omega
       have d6n:(rn1 != rn2)=true:=by simpa using c6
       clear HNO
       go_enter Tryz.func33,Tryz.ntmps33
       go_wp2_with fail
       refine (KS.out _ (hbb _ _)).mono ?_
       rintro e w1 ⟨rfl,m,rfl⟩
       go_wp2
       go_ret
       exact ⟨rfl,below_drewN (hbb _ _) m⟩
      ·have d5:((cn1:Int) != (cn2:Int))=true:=by simp; omega
       have d5n:(cn1 != cn2)=true:=by simpa using c5
       clear HNO
       go_enter Tryz.func33,Tryz.ntmps33
       go_wp2_with fail
       refine (KS.out _ (hbb _ _)).mono ?_
       rintro e w1 ⟨rfl,m,rfl⟩
       go_wp2
       go_ret
       exact ⟨rfl,below_drewN (hbb _ _) m⟩
     ·have d4:(pf1 != pf2)=true:=by simpa using c4
      clear HNO
      go_enter Tryz.func33,Tryz.ntmps33
      go_wp2_with fail
      refine (KS.out _ (hbb _ _)).mono ?_
      rintro e w1 ⟨rfl,m,rfl⟩
      go_wp2
      go_ret
      exact ⟨rfl,below_drewN (hbb _ _) m⟩
    ·have d3:(md1 != md2)=true:=by simpa using c3
     clear HNO
     go_enter Tryz.func33,Tryz.ntmps33
     go_wp2_with fail
     refine (KS.out _ (hbb _ _)).mono ?_
     rintro e w1 ⟨rfl,m,rfl⟩
     go_wp2
     go_ret
     exact ⟨rfl,below_drewN (hbb _ _) m⟩
   ·have d2:((nx1:Int) != (nx2:Int))=true:=by simp; omega
    have d2n:(nx1 != nx2)=true:=by simpa using c2
    clear HNO
    go_enter Tryz.func33,Tryz.ntmps33
    go_wp2_with fail
    refine (KS.out _ (hbb _ _)).mono ?_
    rintro e w1 ⟨rfl,m,rfl⟩
    go_wp2
    go_ret
    exact ⟨rfl,below_drewN (hbb _ _) m⟩
 ·have d1:(o1 != o2)=true:=by simpa using c1
  clear HNO KS
  go_enter Tryz.func33,Tryz.ntmps33
  go_wp2
  go_ret
  exact ⟨rfl,hbb _ _⟩
theorem takes_eq {α:Type}{x y:List α}{n:Nat} (hx:x.length=n) (hy:y.length=n) (h:x.take n=y.take n):x=y:=by
 rwa [List.take_of_length_le (by omega),List.take_of_length_le (by omega)] at h
set_option maxHeartbeats 12800000 in
theorem samea_yes (o:Int)(nx:Nat)(md pf:Int)(pn cn rn:Nat)(pa1 pa2:Option Addr)(pc1 pc2:Nat)(ca1 ca2:Option Addr)(cc1 cc2:Nat)(ra1 ra2:Option Addr)(rc1 rc2:Nat)(cs1 cs2:List Nat)(rs1 rs2:List (Int×Int×List Nat))(w:World)
  (KS:Hid (∀ w1,Below w.heap.size w w1→Calls Tryz.prog 52 #[.slice pa1 pn pc1,.slice pa2 pn pc2] w1 fun e w'=>e=.returned (.bool true)∧∃ m,w'=w1.drewN m))
  (HC1:Hid (CRd w ca1 cs1)) (HC2:Hid (CRd w ca2 cs2)) (HR1:Hid (RawRd w ra1 rs1)) (HR2:Hid (RawRd w ra2 rs2)) (h1:cs1.length=cn) (h2:cs2.length=cn) (h3:rs1.length=rn) (h4:rs2.length=rn) (hb1:cn+rn+sumR rs1≤100000) :
  Calls Tryz.prog 33 #[.agg #[.int .i64 o,.slice pa1 pn pc1,.int .u32 (nx:Int),.int .i64 md,.int .i64 pf,.slice ca1 cn cc1,.slice ra1 rn rc1],.agg #[.int .i64 o,.slice pa2 pn pc2,.int .u32 (nx:Int),.int .i64 md,.int .i64 pf,.slice ca2 cn cc2,.slice ra2 rn rc2]] w fun e w'=>e=.returned (.bool (decide (cs1=cs2) && decide (rs1=rs2)))∧Below w.heap.size w w':=by
 have L1:=hide h1
 have L2:=hide h2
 have L3:=hide h3
 have L4:=hide h4
 clear h1 h2 h3 h4
 have hbb:∀ p q,Below w.heap.size w ((w.alloc p).alloc q):=fun p q=>((Below.refl _ _).alloc (Nat.le_refl _) _).alloc (by simp) _
 go_enter Tryz.func33,Tryz.ntmps33
 go_wp2_with fail
 refine (KS.out _ (hbb _ _)).mono ?_
 rintro e w1 ⟨rfl,m0,hw1⟩
 have HB1:Hid (Below w.heap.size w w1):=by show Below _ _ _; rw [hw1]; exact below_drewN (hbb _ _) m0
 have hz1:w.heap.size+1 < w1.heap.size:=by rw [hw1]; show w.heap.size+1 < ((w.alloc _).alloc _).heap.size; simp
 have hz0:w.heap.size < w1.heap.size:=by omega
 have X5:Hid (w1.cell? ⟨w.heap.size,5,none⟩=some (.slice ca1 cn cc1)):=by show w1.cell? _=_; rw [hw1,cell_drewN]; simp [go_sem]
 have X6:Hid (w1.cell? ⟨w.heap.size,6,none⟩=some (.slice ra1 rn rc1)):=by show w1.cell? _=_; rw [hw1,cell_drewN]; simp [go_sem]
 have Y5:Hid (w1.cell? ⟨w.heap.size+1,5,none⟩=some (.slice ca2 cn cc2)):=by show w1.cell? _=_; rw [hw1,cell_drewN]; simp [go_sem]
 have Y6:Hid (w1.cell? ⟨w.heap.size+1,6,none⟩=some (.slice ra2 rn rc2)):=by show w1.cell? _=_; rw [hw1,cell_drewN]; simp [go_sem]
 have s2:w1.cell? ⟨w.heap.size,2,none⟩=some (.int .u32 (nx:Int)):=by rw [hw1,cell_drewN]; simp [go_sem]
 have t2:w1.cell? ⟨w.heap.size+1,2,none⟩=some (.int .u32 (nx:Int)):=by rw [hw1,cell_drewN]; simp [go_sem]
 have s3:w1.cell? ⟨w.heap.size,3,none⟩=some (.int .i64 md):=by rw [hw1,cell_drewN]; simp [go_sem]
 have t3:w1.cell? ⟨w.heap.size+1,3,none⟩=some (.int .i64 md):=by rw [hw1,cell_drewN]; simp [go_sem]
 have s4:w1.cell? ⟨w.heap.size,4,none⟩=some (.int .i64 pf):=by rw [hw1,cell_drewN]; simp [go_sem]
 have t4:w1.cell? ⟨w.heap.size+1,4,none⟩=some (.int .i64 pf):=by rw [hw1,cell_drewN]; simp [go_sem]
 have s5:=X5.out
 have s6:=X6.out
 have t5:=Y5.out
 have t6:=Y6.out
 clear hw1 hbb KS
 go_wp2
 clear s2 s3 s4 s5 s6 t2 t3 t4 t5 t6
 go_loopw [5] (fun i wq=>∃ k m:Nat,k≤cn∧i=.int .i64 k∧Hid (wq=w1.drewN m)∧Hid (cs1.take k=cs2.take k)) (fun i _=>cn - (intOf i).toNat)
 case atStart=>exact ⟨0,0,Nat.zero_le _,rfl,rfl,rfl⟩
 case round =>
  obtain ⟨k,m,hk,rfl,HW,HT⟩:=hrel
  have x5:wr.cell? ⟨w.heap.size,5,none⟩=some (.slice ca1 cn cc1):=by rw [HW.out,cell_drewN]; exact X5.out
  have y5:wr.cell? ⟨w.heap.size+1,5,none⟩=some (.slice ca2 cn cc2):=by rw [HW.out,cell_drewN]; exact Y5.out
  have v0:w.heap.size < wr.heap.size:=by rw [HW.out]; exact hz0
  have v1:w.heap.size+1 < wr.heap.size:=by rw [HW.out]; exact hz1
  by_cases hlt:k < cn
  ·have hk1p:k < cs1.length:=by rw [L1.out]; exact hlt
   have hk2p:k < cs2.length:=by rw [L2.out]; exact hlt
   obtain ⟨b1,o1,hae1,hc1⟩:=HC1.out (by omega)
   obtain ⟨b2,o2,hae2,hc2⟩:=HC2.out (by omega)
   subst hae1 hae2
   have e1:=hc1 k cs1[k] (List.getElem?_eq_getElem hk1p)
   have e2:=hc2 k cs2[k] (List.getElem?_eq_getElem hk2p)
   have c1:wr.cell? ⟨b1,o1+k,none⟩=some (.int .u32 ((cs1[k]:Nat):Int)):=by rw [HW.out,cell_drewN,HB1.out.cell (p:=⟨b1,o1+k,none⟩) (World.block_lt_of_cell? w _ e1)]; exact e1
   have c2:wr.cell? ⟨b2,o2+k,none⟩=some (.int .u32 ((cs2[k]:Nat):Int)):=by rw [HW.out,cell_drewN,HB1.out.cell (p:=⟨b2,o2+k,none⟩) (World.block_lt_of_cell? w _ e2)]; exact e2
   have HT1:Hid (cs1.take (k+1)=cs1.take k++[cs1[k]]):=List.take_succ_eq_append_getElem hk1p
   have HT2:Hid (cs2.take (k+1)=cs2.take k++[cs2[k]]):=List.take_succ_eq_append_getElem hk2p
   have HNE:Hid (cs1[k]≠cs2[k]→decide (cs1=cs2)=false):=fun h=>decide_eq_false (fun e=>by subst e; exact h rfl)
   clear e1 e2 hc1 hc2
   generalize cs1[k]=p at *
   generalize cs2[k]=q at *
   have hk0:(0:Int)≤(k:Int):=Int.natCast_nonneg _
   have hk1:(k:Int) < (cn:Int):=by omega
   by_cases hpq:p=q
   ·subst hpq
    have HT3:Hid (cs1.take (k+1)=cs2.take (k+1)):=by show cs1.take (k+1)=_; rw [HT1.out,HT2.out,HT.out]
    clear HNE HT1 HT2
    go_wp2_with fail
    go_quiet (fail)
    go_wp2
    exact ⟨⟨k+1,m+nq,by omega,by go_num,show wr.drewN nq=_ by rw [HW.out,drewN_more],HT3⟩,by simp [intOf]; omega⟩
   ·have HF:=hide (HNE.out hpq)
    have hpi:((p:Int) != (q:Int))=true:=by simp; omega
    have hpn:(p != q)=true:=by simpa using hpq
    clear HNE HT1 HT2
    go_wp2_with fail
    go_quiet (fail)
    go_wp2
    go_ret
    exact ⟨ret_bool (by rw [HF.out,Bool.false_and]),by have h9:=HW.out; rw [h9,drewN_more]; exact below_drewN HB1.out _⟩
  ·have HCE:Hid (decide (cs1=cs2)=true):=by
    have hkl:k=cn:=by omega
    have h9:=HT.out
    rw [hkl] at h9
    exact decide_eq_true (takes_eq L1.out L2.out h9)
   obtain ⟨wS,hwS⟩:∃ wS:World,wS=wr:=⟨wr,rfl⟩
   subst hwS
   have HBS:Hid (Below w.heap.size w wS):=by show Below _ _ _; rw [HW.out]; exact below_drewN HB1.out m
   have X6b:Hid (wS.cell? ⟨w.heap.size,6,none⟩=some (.slice ra1 rn rc1)):=by show wS.cell? _=_; rw [HW.out,cell_drewN]; exact X6.out
   have Y6b:Hid (wS.cell? ⟨w.heap.size+1,6,none⟩=some (.slice ra2 rn rc2)):=by show wS.cell? _=_; rw [HW.out,cell_drewN]; exact Y6.out
   clear HW HT X5 Y5 X6 Y6 HC1 HC2
   go_wp2
   go_loopw [6] (fun i wq=>∃ j m:Nat,j≤rn∧i=.int .i64 j∧Hid (wq=wS.drewN m)∧Hid (rs1.take j=rs2.take j)) (fun i _=>rn - (intOf i).toNat)
   case atStart=>exact ⟨0,0,Nat.zero_le _,rfl,rfl,rfl⟩
   case round =>
    obtain ⟨j,m2,hj,rfl,HW,HT⟩:=hrel
    have x6:wr.cell? ⟨w.heap.size,6,none⟩=some (.slice ra1 rn rc1):=by rw [HW.out,cell_drewN]; exact X6b.out
    have y6:wr.cell? ⟨w.heap.size+1,6,none⟩=some (.slice ra2 rn rc2):=by rw [HW.out,cell_drewN]; exact Y6b.out
    have u0z:w.heap.size < wr.heap.size:=by rw [HW.out]; exact v0
    have u1z:w.heap.size+1 < wr.heap.size:=by rw [HW.out]; exact v1
    have HBR:Hid (Below w.heap.size w wr):=by show Below _ _ _; rw [HW.out]; exact below_drewN HBS.out m2
    by_cases hlj:j < rn
    ·have hj1p:j < rs1.length:=by rw [L3.out]; exact hlj
     have hj2p:j < rs2.length:=by rw [L4.out]; exact hlj
     obtain ⟨b1,o1,hae1,hc1⟩:=HR1.out (by omega)
     obtain ⟨b2,o2,hae2,hc2⟩:=HR2.out (by omega)
     subst hae1 hae2
     obtain ⟨p0,p1,a1,c1,p2,_,hd1⟩:=hc1 j rs1[j] (List.getElem?_eq_getElem hj1p)
     obtain ⟨q0,q1,a2,c2,q2,_,hd2⟩:=hc2 j rs2[j] (List.getElem?_eq_getElem hj2p)
     have zp:=World.block_lt_of_cell? w _ p0
     have zq:=World.block_lt_of_cell? w _ q0
     simp only at zp zq
     have P0:wr.cell? ⟨b1,o1+j * 3,none⟩=some (.int .i64 (rs1[j]).1):=by rw [HBR.out.cell (p:=⟨b1,o1+j * 3,none⟩) zp]; exact p0
     have P1:wr.cell? ⟨b1,o1+j * 3+1,none⟩=some (.int .i64 (rs1[j]).2.1):=by rw [HBR.out.cell (p:=⟨b1,o1+j * 3+1,none⟩) zp]; exact p1
     have P2:wr.cell? ⟨b1,o1+j * 3+2,none⟩=some (.slice a1 (rs1[j]).2.2.length c1):=by rw [HBR.out.cell (p:=⟨b1,o1+j * 3+2,none⟩) zp]; exact p2
     have Q0:wr.cell? ⟨b2,o2+j * 3,none⟩=some (.int .i64 (rs2[j]).1):=by rw [HBR.out.cell (p:=⟨b2,o2+j * 3,none⟩) zq]; exact q0
     have Q1:wr.cell? ⟨b2,o2+j * 3+1,none⟩=some (.int .i64 (rs2[j]).2.1):=by rw [HBR.out.cell (p:=⟨b2,o2+j * 3+1,none⟩) zq]; exact q1
     have Q2:wr.cell? ⟨b2,o2+j * 3+2,none⟩=some (.slice a2 (rs2[j]).2.2.length c2):=by rw [HBR.out.cell (p:=⟨b2,o2+j * 3+2,none⟩) zq]; exact q2
     have KD:Hid (∀ n,Calls Tryz.prog 15 #[.slice a1 (rs1[j]).2.2.length c1,.slice a2 (rs2[j]).2.2.length c2] (wr.drewN n) fun e w'=>e=.returned (.bool (decide ((rs1[j]).2.2=(rs2[j]).2.2)))∧∃ m,w'=(wr.drewN n).drewN m):=fun n =>
      samed_any a1 a2 c1 c2 _ _ _ (by have:=sumR_mem rs1 _ (List.getElem_mem hj1p); omega) ((hd1.below HBR.out).below (below_drewN (Below.refl _ _) n)) ((hd2.below HBR.out).below (below_drewN (Below.refl _ _) n))
     have HT1:Hid (rs1.take (j+1)=rs1.take j++[rs1[j]]):=List.take_succ_eq_append_getElem hj1p
     have HT2:Hid (rs2.take (j+1)=rs2.take j++[rs2[j]]):=List.take_succ_eq_append_getElem hj2p
     have HNE:Hid (rs1[j]≠rs2[j]→decide (rs1=rs2)=false):=fun h=>decide_eq_false (fun e=>by subst e; exact h rfl)
     clear p0 p1 p2 q0 q1 q2 hd1 hd2 hc1 hc2
     generalize rs1[j]=r1 at *
     generalize rs2[j]=r2 at *
     obtain ⟨f1,t1,d1⟩:=r1
     obtain ⟨f2,t2,d2⟩:=r2
     simp only at P0 P1 P2 Q0 Q1 Q2 KD
     have HDD:Hid (d1.length=d1.length):=rfl
     generalize d1.length=l1 at P2 KD
     generalize d2.length=l2 at Q2 KD
     clear HDD
     have hj0:(0:Int)≤(j:Int):=Int.natCast_nonneg _
     have hj1:(j:Int) < (rn:Int):=by omega
     by_cases ef:f1=f2
     ·subst ef
      by_cases et:t1=t2
      ·subst et
       by_cases ed:d1=d2
       ·subst ed
        have HT3:Hid (rs1.take (j+1)=rs2.take (j+1)):=by show rs1.take (j+1)=_; rw [HT1.out,HT2.out,HT.out]
        rw [decide_eq_true rfl] at KD
        clear HNE HT1 HT2
        go_wp2_with fail
        go_quiet ((go_at_call 15; exact Calls.quiet_of (KD.out _)))
        go_wp2
        exact ⟨⟨j+1,m2+nq,by omega,by go_num,show wr.drewN nq=_ by rw [HW.out,drewN_more],HT3⟩,by simp [intOf]; omega⟩
       ·have HF:=hide (HNE.out (fun e9=>by injection e9 with _ e9; injection e9 with _ e9; exact ed e9))
        rw [decide_eq_false ed] at KD
        clear HNE HT1 HT2
        go_wp2_with fail
        go_quiet ((go_at_call 15; exact Calls.quiet_of (KD.out _)))
        go_wp2
        go_ret
        exact ⟨ret_bool (by rw [HF.out,Bool.and_false]),below_drewN HBR.out _⟩
      ·have HF:=hide (HNE.out (fun e9=>by injection e9 with _ e9; injection e9 with e9 _; exact et e9))
       have gt:(t1 != t2)=true:=by simpa using et
       clear HNE HT1 HT2 KD
       go_wp2_with fail
       go_quiet (fail)
       go_wp2
       go_ret
       exact ⟨ret_bool (by rw [HF.out,Bool.and_false]),below_drewN HBR.out _⟩
     ·have HF:=hide (HNE.out (fun e9=>by injection e9 with e9 _; exact ef e9))
      have gf:(f1 != f2)=true:=by simpa using ef
      clear HNE HT1 HT2 KD
      go_wp2_with fail
      go_quiet (fail)
      go_wp2
      go_ret
      exact ⟨ret_bool (by rw [HF.out,Bool.and_false]),below_drewN HBR.out _⟩
    ·have HRE:Hid (decide (rs1=rs2)=true):=by
      have hjl:j=rn:=by omega
      have h9:=HT.out
      rw [hjl] at h9
      exact decide_eq_true (takes_eq L3.out L4.out h9)
     go_wp2
     go_ret
     exact ⟨ret_bool (by rw [HCE.out,HRE.out]; rfl),HBR.out⟩
theorem samea_any (pa1 pa2:Option Addr)(pc1 pc2:Nat)(ca1 ca2:Option Addr)(cc1 cc2:Nat)(ra1 ra2:Option Addr)(rc1 rc2:Nat)(a b:At)(w:World)(hl:sizeA a≤100000)(hl2:sizeA b≤100000)(h1:AtRd w pa1 ca1 ra1 a)(h2:AtRd w pa2 ca2 ra2 b) :
  Calls Tryz.prog 33 #[atV pa1 pc1 ca1 cc1 ra1 rc1 a,atV pa2 pc2 ca2 cc2 ra2 rc2 b] w fun e w'=>e=.returned (.bool (eqA a b))∧Below w.heap.size w w':=by
 have KS:Hid (∀ w1,Below w.heap.size w w1→Calls Tryz.prog 52 #[.slice pa1 a.path.length pc1,.slice pa2 b.path.length pc2] w1 fun e w'=>e=.returned (.bool (eqP a.path b.path))∧∃ m,w'=w1.drewN m):=fun w1 hb=>samepath_any pa1 pa2 pc1 pc2 a.path b.path w1 (by unfold sizeA at hl; omega) (by unfold sizeA at hl2; omega) (h1.path.below hb) (h2.path.below hb)
 unfold eqA atV
 cases hh:eqHead a b with
 | false =>
  rw [Bool.false_and,Bool.false_and]
  exact samea_no a.origin pa1 _ pc1 a.next a.med a.pref ca1 _ cc1 ra1 _ rc1 b.origin pa2 _ pc2 b.next b.med b.pref ca2 _ cc2 ra2 _ rc2 _ w KS hh
 | true =>
  rw [Bool.true_and]
  unfold eqHead at hh
  simp only [Bool.and_eq_true,decide_eq_true_eq] at hh
  obtain ⟨⟨⟨⟨⟨⟨e1,e2⟩,e3⟩,e4⟩,e5⟩,e6⟩,e7⟩:=hh
  rw [e2] at KS
  have e2b:a.path.length=b.path.length:=by rw [of_decide_eq_true e2]
  rw [e2b] at KS
  rw [e1,e3,e4,e5,e6,e7,e2b]
  exact samea_yes b.origin b.next b.med b.pref _ _ _ pa1 pa2 pc1 pc2 ca1 ca2 cc1 cc2 ra1 ra2 rc1 rc2 a.comms b.comms a.raws b.raws w KS h1.comms h2.comms h1.raws h2.raws e6 rfl e7 rfl (by unfold sizeA at hl; omega)
end Go.Proofs.YtogbjeaceboemaaGreatDoor
