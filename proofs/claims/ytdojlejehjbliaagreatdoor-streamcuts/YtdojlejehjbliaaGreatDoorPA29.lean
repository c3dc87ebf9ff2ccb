import Derived.Test.YtdojlejehjbliaaGreatDoorPA28
import Derived.Deep.DeepCutAuto
namespace Go.Proofs.YtdojlejehjbliaaGreatDoor
set_option maxHeartbeats 12800000
open _root_.Go.Value renaming slice → I,int → V
open _root_.Option renaming none → J,some → Z
open _root_.Go.IntKind renaming i64 → Q
open _root_.Go.World renaming block_lt_of_cell? → Y
open _root_.Go.RowKit.Below renaming refl → U
open _root_.Go.Proofs.Tryz renaming prog → K
open _root_.List renaming length_append → E
open _root_.Nat renaming le_refl → D
open _root_.Go.Ending renaming returned → R
open Go.RowKit
set_option maxRecDepth 100000
def Qqk (a b:At):Bool:=decide (a.origin=b.origin) && eqP a.path b.path && decide (a.next=b.next) && decide (a.med=b.med) && decide (a.pref=b.pref) && decide (a.comms.length=b.comms.length) && decide (a.raws.length=b.raws.length)
def eqA (a b:At):Bool:=Qqk a b && decide (a.comms=b.comms) && decide (a.raws=b.raws)
theorem Qv9 (o1:Int)(pa1:Option Addr)(pn1 pc1:Nat)(nx1:Nat)(md1 pf1:Int)(ca1:Option Addr)(cn1 cc1:Nat)(ra1:Option Addr)(rn1 rc1:Nat)(o2:Int)(pa2:Option Addr)(pn2 pc2:Nat)(nx2:Nat)(md2 pf2:Int)(ca2:Option Addr)(cn2 cc2:Nat)(ra2:Option Addr)(rn2 rc2:Nat)(g:Bool)(w:World)
  (KS:Hid (∀ w1,Below w.heap.size w w1→Calls K 49 #[I pa1 pn1 pc1,I pa2 pn2 pc2] w1 fun e w'=>e=R (.bool g)∧∃ m,w'=w1.drewN m))
  (hno:(decide (o1=o2) && g && decide (nx1=nx2) && decide (md1=md2) && decide (pf1=pf2) && decide (cn1=cn2) && decide (rn1=rn2))=false) :
  Calls K 30 #[.agg #[V Q o1,I pa1 pn1 pc1,V .u32 (nx1:Int),V Q md1,V Q pf1,I ca1 cn1 cc1,I ra1 rn1 rc1],.agg #[V Q o2,I pa2 pn2 pc2,V .u32 (nx2:Int),V Q md2,V Q pf2,I ca2 cn2 cc2,I ra2 rn2 rc2]] w fun e w'=>e=R (.bool false)∧Below w.heap.size w w':=by
 have hbb:∀ p q,Below w.heap.size w ((w.alloc p).alloc q):=fun p q=>((U _ _).alloc (D _) _).alloc (by simp) _
 have HNO:=Qaa hno
 clear hno
 by_cases c1:o1=o2
 ·subst c1
  cases g with
  | false =>
   clear HNO
   go_enter Tryz.func30,Tryz.ntmps30
   go_wp2_with fail
   refine (KS.out _ (hbb _ _)).mono ?_
   rintro e w1 ⟨rfl,m,rfl⟩
   go_wp2
   go_ret
   exact ⟨rfl,Qaj (hbb _ _) m⟩
  | true =>
   by_cases c2:nx1=nx2
   ·subst c2
    by_cases c3:md1=md2
    ·subst c3
     by_cases c4:pf1=pf2
     ·subst c4
      by_cases c5:cn1=cn2
      ·subst c5
       have c6:rn1≠rn2:=by
        have h9:=HNO.out
        intro e
        subst e
        simp at h9
       have d6:((rn1:Int) != (rn2:Int))=true:=by simp; omega
       have d6n:(rn1 != rn2)=true:=by simpa using c6
       clear HNO
       go_enter Tryz.func30,Tryz.ntmps30
       go_wp2_with fail
       refine (KS.out _ (hbb _ _)).mono ?_
       rintro e w1 ⟨rfl,m,rfl⟩
       go_wp2
       go_ret
       exact ⟨rfl,Qaj (hbb _ _) m⟩
      ·have d5:((cn1:Int) != (cn2:Int))=true:=by simp; omega
       have d5n:(cn1 != cn2)=true:=by simpa using c5
       clear HNO
       go_enter Tryz.func30,Tryz.ntmps30
       go_wp2_with fail
       refine (KS.out _ (hbb _ _)).mono ?_
       rintro e w1 ⟨rfl,m,rfl⟩
       go_wp2
       go_ret
       exact ⟨rfl,Qaj (hbb _ _) m⟩
     ·have d4:(pf1 != pf2)=true:=by simpa using c4
      clear HNO
      go_enter Tryz.func30,Tryz.ntmps30
      go_wp2_with fail
      refine (KS.out _ (hbb _ _)).mono ?_
      rintro e w1 ⟨rfl,m,rfl⟩
      go_wp2
      go_ret
      exact ⟨rfl,Qaj (hbb _ _) m⟩
    ·have d3:(md1 != md2)=true:=by simpa using c3
     clear HNO
     go_enter Tryz.func30,Tryz.ntmps30
     go_wp2_with fail
     refine (KS.out _ (hbb _ _)).mono ?_
     rintro e w1 ⟨rfl,m,rfl⟩
     go_wp2
     go_ret
     exact ⟨rfl,Qaj (hbb _ _) m⟩
   ·have d2:((nx1:Int) != (nx2:Int))=true:=by simp; omega
    have d2n:(nx1 != nx2)=true:=by simpa using c2
    clear HNO
    go_enter Tryz.func30,Tryz.ntmps30
    go_wp2_with fail
    refine (KS.out _ (hbb _ _)).mono ?_
    rintro e w1 ⟨rfl,m,rfl⟩
    go_wp2
    go_ret
    exact ⟨rfl,Qaj (hbb _ _) m⟩
 ·have d1:(o1 != o2)=true:=by simpa using c1
  clear HNO KS
  go_enter Tryz.func30,Tryz.ntmps30
  go_wp2
  go_ret
  exact ⟨rfl,hbb _ _⟩
theorem Qqp {α:Type}{x y:List α}{n:Nat} (hx:x.length=n) (hy:y.length=n) (h:x.take n=y.take n):x=y:=by
 rwa [List.take_of_length_le (by omega),List.take_of_length_le (by omega)] at h
theorem Qtf (o:Int)(nx:Nat)(md pf:Int)(pn cn rn:Nat)(pa1 pa2:Option Addr)(pc1 pc2:Nat)(ca1 ca2:Option Addr)(cc1 cc2:Nat)(ra1 ra2:Option Addr)(rc1 rc2:Nat)(cs1 cs2:List Nat)(rs1 rs2:List (Int×Int×List Nat))(w:World)
  (KS:Hid (∀ w1,Below w.heap.size w w1→Calls K 49 #[I pa1 pn pc1,I pa2 pn pc2] w1 fun e w'=>e=R (.bool true)∧∃ m,w'=w1.drewN m))
  (HC1:Hid (CRd w ca1 cs1)) (HC2:Hid (CRd w ca2 cs2)) (HR1:Hid (Qpf w ra1 rs1)) (HR2:Hid (Qpf w ra2 rs2)) (h1:cs1.length=cn) (h2:cs2.length=cn) (h3:rs1.length=rn) (h4:rs2.length=rn) (hb1:cn+rn+sumR rs1≤100000) :
  Calls K 30 #[.agg #[V Q o,I pa1 pn pc1,V .u32 (nx:Int),V Q md,V Q pf,I ca1 cn cc1,I ra1 rn rc1],.agg #[V Q o,I pa2 pn pc2,V .u32 (nx:Int),V Q md,V Q pf,I ca2 cn cc2,I ra2 rn rc2]] w fun e w'=>e=R (.bool (decide (cs1=cs2) && decide (rs1=rs2)))∧Below w.heap.size w w':=by
 have L1:=Qaa h1
 have L2:=Qaa h2
 have L3:=Qaa h3
 have L4:=Qaa h4
 clear h1 h2 h3 h4
 have hbb:∀ p q,Below w.heap.size w ((w.alloc p).alloc q):=fun p q=>((U _ _).alloc (D _) _).alloc (by simp) _
 go_enter Tryz.func30,Tryz.ntmps30
 go_wp2_with fail
 refine (KS.out _ (hbb _ _)).mono ?_
 rintro e w1 ⟨rfl,m0,hw1⟩
 have HB1:Hid (Below w.heap.size w w1):=by show Below _ _ _; rw [hw1]; exact Qaj (hbb _ _) m0
 have hz1:w.heap.size+1 < w1.heap.size:=by rw [hw1]; show w.heap.size+1 < ((w.alloc _).alloc _).heap.size; simp
 have hz0:w.heap.size < w1.heap.size:=by omega
 have X5:Hid (w1.cell? ⟨w.heap.size,5,J⟩=Z (I ca1 cn cc1)):=by show w1.cell? _=_; rw [hw1,Qay]; simp [go_sem]
 have X6:Hid (w1.cell? ⟨w.heap.size,6,J⟩=Z (I ra1 rn rc1)):=by show w1.cell? _=_; rw [hw1,Qay]; simp [go_sem]
 have Y5:Hid (w1.cell? ⟨w.heap.size+1,5,J⟩=Z (I ca2 cn cc2)):=by show w1.cell? _=_; rw [hw1,Qay]; simp [go_sem]
 have Y6:Hid (w1.cell? ⟨w.heap.size+1,6,J⟩=Z (I ra2 rn rc2)):=by show w1.cell? _=_; rw [hw1,Qay]; simp [go_sem]
 have s2:w1.cell? ⟨w.heap.size,2,J⟩=Z (V .u32 (nx:Int)):=by rw [hw1,Qay]; simp [go_sem]
 have t2:w1.cell? ⟨w.heap.size+1,2,J⟩=Z (V .u32 (nx:Int)):=by rw [hw1,Qay]; simp [go_sem]
 have s3:w1.cell? ⟨w.heap.size,3,J⟩=Z (V Q md):=by rw [hw1,Qay]; simp [go_sem]
 have t3:w1.cell? ⟨w.heap.size+1,3,J⟩=Z (V Q md):=by rw [hw1,Qay]; simp [go_sem]
 have s4:w1.cell? ⟨w.heap.size,4,J⟩=Z (V Q pf):=by rw [hw1,Qay]; simp [go_sem]
 have t4:w1.cell? ⟨w.heap.size+1,4,J⟩=Z (V Q pf):=by rw [hw1,Qay]; simp [go_sem]
 have s5:=X5.out
 have s6:=X6.out
 have t5:=Y5.out
 have t6:=Y6.out
 clear hw1 hbb KS
 go_wp2
 clear s2 s3 s4 s5 s6 t2 t3 t4 t5 t6
 go_loopw [5] (fun i wq=>∃ k m:Nat,k≤cn∧i=V Q k∧Hid (wq=w1.drewN m)∧Hid (cs1.take k=cs2.take k)) (fun i _=>cn - (intOf i).toNat)
 case atStart=>exact ⟨0,0,Nat.zero_le _,rfl,rfl,rfl⟩
 case round =>
  obtain ⟨k,m,hk,rfl,HW,HT⟩:=hrel
  have x5:wr.cell? ⟨w.heap.size,5,J⟩=Z (I ca1 cn cc1):=by rw [HW.out,Qay]; exact X5.out
  have y5:wr.cell? ⟨w.heap.size+1,5,J⟩=Z (I ca2 cn cc2):=by rw [HW.out,Qay]; exact Y5.out
  have v0:w.heap.size < wr.heap.size:=by rw [HW.out]; exact hz0
  have v1:w.heap.size+1 < wr.heap.size:=by rw [HW.out]; exact hz1
  by_cases hlt:k < cn
  ·have hk1p:k < cs1.length:=by rw [L1.out]; exact hlt
   have hk2p:k < cs2.length:=by rw [L2.out]; exact hlt
   obtain ⟨b1,o1,hae1,hc1⟩:=HC1.out (by omega)
   obtain ⟨b2,o2,hae2,hc2⟩:=HC2.out (by omega)
   subst hae1 hae2
   have e1:=hc1 k cs1[k] (List.getElem?_eq_getElem hk1p)
   have e2:=hc2 k cs2[k] (List.getElem?_eq_getElem hk2p)
   have c1:wr.cell? ⟨b1,o1+k,J⟩=Z (V .u32 ((cs1[k]:Nat):Int)):=by rw [HW.out,Qay,HB1.out.cell (p:=⟨b1,o1+k,J⟩) (Y w _ e1)]; exact e1
   have c2:wr.cell? ⟨b2,o2+k,J⟩=Z (V .u32 ((cs2[k]:Nat):Int)):=by rw [HW.out,Qay,HB1.out.cell (p:=⟨b2,o2+k,J⟩) (Y w _ e2)]; exact e2
   have HT1:Hid (cs1.take (k+1)=cs1.take k++[cs1[k]]):=List.take_succ_eq_append_getElem hk1p
   have HT2:Hid (cs2.take (k+1)=cs2.take k++[cs2[k]]):=List.take_succ_eq_append_getElem hk2p
   have HNE:Hid (cs1[k]≠cs2[k]→decide (cs1=cs2)=false):=fun h=>decide_eq_false (fun e=>by subst e; exact h rfl)
   clear e1 e2 hc1 hc2
   generalize cs1[k]=p at *
   generalize cs2[k]=q at *
   have hk0:(0:Int)≤(k:Int):=Int.natCast_nonneg _
   have hk1:(k:Int) < (cn:Int):=by omega
   by_cases hpq:p=q
   ·subst hpq
    have HT3:Hid (cs1.take (k+1)=cs2.take (k+1)):=by show cs1.take (k+1)=_; rw [HT1.out,HT2.out,HT.out]
    clear HNE HT1 HT2
    go_wp2_with fail
    go_quiet (fail)
    go_wp2
    exact ⟨⟨k+1,m+nq,by omega,by go_num,show wr.drewN nq=_ by rw [HW.out,Qc1],HT3⟩,by simp [intOf]; omega⟩
   ·have HF:=Qaa (HNE.out hpq)
    have hpi:((p:Int) != (q:Int))=true:=by simp; omega
    have hpn:(p != q)=true:=by simpa using hpq
    clear HNE HT1 HT2
    go_wp2_with fail
    go_quiet (fail)
    go_wp2
    go_ret
    exact ⟨Qa8 (by rw [HF.out,Bool.false_and]),by have h9:=HW.out; rw [h9,Qc1]; exact Qaj HB1.out _⟩
  ·have HCE:Hid (decide (cs1=cs2)=true):=by
    have hkl:k=cn:=by omega
    have h9:=HT.out
    rw [hkl] at h9
    exact decide_eq_true (Qqp L1.out L2.out h9)
   obtain ⟨wS,hwS⟩:∃ wS:World,wS=wr:=⟨wr,rfl⟩
   subst hwS
   have HBS:Hid (Below w.heap.size w wS):=by show Below _ _ _; rw [HW.out]; exact Qaj HB1.out m
   have X6b:Hid (wS.cell? ⟨w.heap.size,6,J⟩=Z (I ra1 rn rc1)):=by show wS.cell? _=_; rw [HW.out,Qay]; exact X6.out
   have Y6b:Hid (wS.cell? ⟨w.heap.size+1,6,J⟩=Z (I ra2 rn rc2)):=by show wS.cell? _=_; rw [HW.out,Qay]; exact Y6.out
   clear HW HT X5 Y5 X6 Y6 HC1 HC2
   go_wp2
   go_loopw [6] (fun i wq=>∃ j m:Nat,j≤rn∧i=V Q j∧Hid (wq=wS.drewN m)∧Hid (rs1.take j=rs2.take j)) (fun i _=>rn - (intOf i).toNat)
   case atStart=>exact ⟨0,0,Nat.zero_le _,rfl,rfl,rfl⟩
   case round =>
    obtain ⟨j,m2,hj,rfl,HW,HT⟩:=hrel
    have x6:wr.cell? ⟨w.heap.size,6,J⟩=Z (I ra1 rn rc1):=by rw [HW.out,Qay]; exact X6b.out
    have y6:wr.cell? ⟨w.heap.size+1,6,J⟩=Z (I ra2 rn rc2):=by rw [HW.out,Qay]; exact Y6b.out
    have u0z:w.heap.size < wr.heap.size:=by rw [HW.out]; exact v0
    have u1z:w.heap.size+1 < wr.heap.size:=by rw [HW.out]; exact v1
    have HBR:Hid (Below w.heap.size w wr):=by show Below _ _ _; rw [HW.out]; exact Qaj HBS.out m2
    by_cases hlj:j < rn
    ·have hj1p:j < rs1.length:=by rw [L3.out]; exact hlj
     have hj2p:j < rs2.length:=by rw [L4.out]; exact hlj
     obtain ⟨b1,o1,hae1,hc1⟩:=HR1.out (by omega)
     obtain ⟨b2,o2,hae2,hc2⟩:=HR2.out (by omega)
     subst hae1 hae2
     obtain ⟨p0,p1,a1,c1,p2,_,hd1⟩:=hc1 j rs1[j] (List.getElem?_eq_getElem hj1p)
     obtain ⟨q0,q1,a2,c2,q2,_,hd2⟩:=hc2 j rs2[j] (List.getElem?_eq_getElem hj2p)
     have zp:=Y w _ p0
     have zq:=Y w _ q0
     simp only at zp zq
     have P0:wr.cell? ⟨b1,o1+j * 3,J⟩=Z (V Q (rs1[j]).1):=by rw [HBR.out.cell (p:=⟨b1,o1+j * 3,J⟩) zp]; exact p0
     have P1:wr.cell? ⟨b1,o1+j * 3+1,J⟩=Z (V Q (rs1[j]).2.1):=by rw [HBR.out.cell (p:=⟨b1,o1+j * 3+1,J⟩) zp]; exact p1
     have P2:wr.cell? ⟨b1,o1+j * 3+2,J⟩=Z (I a1 (rs1[j]).2.2.length c1):=by rw [HBR.out.cell (p:=⟨b1,o1+j * 3+2,J⟩) zp]; exact p2
     have Q0:wr.cell? ⟨b2,o2+j * 3,J⟩=Z (V Q (rs2[j]).1):=by rw [HBR.out.cell (p:=⟨b2,o2+j * 3,J⟩) zq]; exact q0
     have Q1:wr.cell? ⟨b2,o2+j * 3+1,J⟩=Z (V Q (rs2[j]).2.1):=by rw [HBR.out.cell (p:=⟨b2,o2+j * 3+1,J⟩) zq]; exact q1
     have Q2:wr.cell? ⟨b2,o2+j * 3+2,J⟩=Z (I a2 (rs2[j]).2.2.length c2):=by rw [HBR.out.cell (p:=⟨b2,o2+j * 3+2,J⟩) zq]; exact q2
     have KD:Hid (∀ n,Calls K 28 #[I a1 (rs1[j]).2.2.length c1,I a2 (rs2[j]).2.2.length c2] (wr.drewN n) fun e w'=>e=R (.bool (decide ((rs1[j]).2.2=(rs2[j]).2.2)))∧∃ m,w'=(wr.drewN n).drewN m):=fun n =>
      Qnv a1 a2 c1 c2 _ _ _ (by have:=Qqj rs1 _ (List.getElem_mem hj1p); omega) ((hd1.below HBR.out).below (Qaj (U _ _) n)) ((hd2.below HBR.out).below (Qaj (U _ _) n))
     have HT1:Hid (rs1.take (j+1)=rs1.take j++[rs1[j]]):=List.take_succ_eq_append_getElem hj1p
     have HT2:Hid (rs2.take (j+1)=rs2.take j++[rs2[j]]):=List.take_succ_eq_append_getElem hj2p
     have HNE:Hid (rs1[j]≠rs2[j]→decide (rs1=rs2)=false):=fun h=>decide_eq_false (fun e=>by subst e; exact h rfl)
     clear p0 p1 p2 q0 q1 q2 hd1 hd2 hc1 hc2
     generalize rs1[j]=r1 at *
     generalize rs2[j]=r2 at *
     obtain ⟨f1,t1,d1⟩:=r1
     obtain ⟨f2,t2,d2⟩:=r2
     simp only at P0 P1 P2 Q0 Q1 Q2 KD
     have HDD:Hid (d1.length=d1.length):=rfl
     generalize d1.length=l1 at P2 KD
     generalize d2.length=l2 at Q2 KD
     clear HDD
     have hj0:(0:Int)≤(j:Int):=Int.natCast_nonneg _
     have hj1:(j:Int) < (rn:Int):=by omega
     by_cases ef:f1=f2
     ·subst ef
      by_cases et:t1=t2
      ·subst et
       by_cases ed:d1=d2
       ·subst ed
        have HT3:Hid (rs1.take (j+1)=rs2.take (j+1)):=by show rs1.take (j+1)=_; rw [HT1.out,HT2.out,HT.out]
        rw [decide_eq_true rfl] at KD
        clear HNE HT1 HT2
        go_wp2_with fail
        go_quiet ((go_at_call 28; exact Calls.quiet_of (KD.out _)))
        go_wp2
        exact ⟨⟨j+1,m2+nq,by omega,by go_num,show wr.drewN nq=_ by rw [HW.out,Qc1],HT3⟩,by simp [intOf]; omega⟩
       ·have HF:=Qaa (HNE.out (fun e9=>by injection e9 with _ e9; injection e9 with _ e9; exact ed e9))
        rw [decide_eq_false ed] at KD
        clear HNE HT1 HT2
        go_wp2_with fail
        go_quiet ((go_at_call 28; exact Calls.quiet_of (KD.out _)))
        go_wp2
        go_ret
        exact ⟨Qa8 (by rw [HF.out,Bool.and_false]),Qaj HBR.out _⟩
      ·have HF:=Qaa (HNE.out (fun e9=>by injection e9 with _ e9; injection e9 with e9 _; exact et e9))
       have gt:(t1 != t2)=true:=by simpa using et
       clear HNE HT1 HT2 KD
       go_wp2_with fail
       go_quiet (fail)
       go_wp2
       go_ret
       exact ⟨Qa8 (by rw [HF.out,Bool.and_false]),Qaj HBR.out _⟩
     ·have HF:=Qaa (HNE.out (fun e9=>by injection e9 with e9 _; exact ef e9))
      have gf:(f1 != f2)=true:=by simpa using ef
      clear HNE HT1 HT2 KD
      go_wp2_with fail
      go_quiet (fail)
      go_wp2
      go_ret
      exact ⟨Qa8 (by rw [HF.out,Bool.and_false]),Qaj HBR.out _⟩
    ·have HRE:Hid (decide (rs1=rs2)=true):=by
      have hjl:j=rn:=by omega
      have h9:=HT.out
      rw [hjl] at h9
      exact decide_eq_true (Qqp L3.out L4.out h9)
     go_wp2
     go_ret
     exact ⟨Qa8 (by rw [HCE.out,HRE.out]; rfl),HBR.out⟩
theorem Qsw (pa1 pa2:Option Addr)(pc1 pc2:Nat)(ca1 ca2:Option Addr)(cc1 cc2:Nat)(ra1 ra2:Option Addr)(rc1 rc2:Nat)(a b:At)(w:World)(hl:Qh2 a≤100000)(hl2:Qh2 b≤100000)(h1:Jaa w pa1 ca1 ra1 a)(h2:Jaa w pa2 ca2 ra2 b) :
  Calls K 30 #[atV pa1 pc1 ca1 cc1 ra1 rc1 a,atV pa2 pc2 ca2 cc2 ra2 rc2 b] w fun e w'=>e=R (.bool (eqA a b))∧Below w.heap.size w w':=by
 have KS:Hid (∀ w1,Below w.heap.size w w1→Calls K 49 #[I pa1 a.path.length pc1,I pa2 b.path.length pc2] w1 fun e w'=>e=R (.bool (eqP a.path b.path))∧∃ m,w'=w1.drewN m):=fun w1 hb=>Qm7 pa1 pa2 pc1 pc2 a.path b.path w1 (by unfold Qh2 at hl; omega) (by unfold Qh2 at hl2; omega) (h1.path.below hb) (h2.path.below hb)
 unfold eqA atV
 cases hh:Qqk a b with
 | false =>
  rw [Bool.false_and,Bool.false_and]
  exact Qv9 a.origin pa1 _ pc1 a.next a.med a.pref ca1 _ cc1 ra1 _ rc1 b.origin pa2 _ pc2 b.next b.med b.pref ca2 _ cc2 ra2 _ rc2 _ w KS hh
 | true =>
  rw [Bool.true_and]
  unfold Qqk at hh
  simp only [Bool.and_eq_true,decide_eq_true_eq] at hh
  obtain ⟨⟨⟨⟨⟨⟨e1,e2⟩,e3⟩,e4⟩,e5⟩,e6⟩,e7⟩:=hh
  rw [e2] at KS
  have e2b:a.path.length=b.path.length:=by rw [of_decide_eq_true e2]
  rw [e2b] at KS
  rw [e1,e3,e4,e5,e6,e7,e2b]
  exact Qtf b.origin b.next b.med b.pref _ _ _ pa1 pa2 pc1 pc2 ca1 ca2 cc1 cc2 ra1 ra2 rc1 rc2 a.comms b.comms a.raws b.raws w KS h1.comms h2.comms h1.raws h2.raws e6 rfl e7 rfl (by unfold Qh2 at hl; omega)
theorem Qxn (a:At):eqA a a=true:=by unfold eqA Qqk eqP; simp
theorem Qx6 {w:World}{B:Nat}{p1 p5 p6:Option Addr}{k1 k5 k6:Nat}{a:At} (hn:a.next < 4294967296) (hl:Qh2 a≤100000) (hb:∀ r∈a.raws,∀ x∈r.2.2,x < 256) (h1:Qa7 w B (I p1 a.path.length k1) a.path) (h5:w.ownsRow B 24 1 (I p5 a.comms.length k5) a.comms.length (Qb8 a.comms)) (h6:Qbr w B (I p6 a.raws.length k6) a.raws):Jaa w p1 p5 p6 a:=by
 unfold Qh2 at hl
 obtain ⟨x1,y1,e1,r1⟩:=h1.rd (by omega) (fun s hs=>by have:=Qhe a.path s hs; omega)
 obtain ⟨x5,y5,e5,r5⟩:=Qzl h5
 obtain ⟨x6,y6,e6,r6⟩:=h6.rd (fun r hr=>⟨by have:=Qqj a.raws r hr; omega,hb r hr⟩)
 simp only [Value.slice.injEq,true_and] at e1 e5 e6
 obtain ⟨rfl,rfl⟩:=e1
 obtain ⟨rfl,rfl⟩:=e5
 obtain ⟨rfl,rfl⟩:=e6
 exact ⟨r1,r5,r6,hn⟩
def Qmm (r:Int×Int×List Nat)(l:List (Int×Int×List Nat)):Bool:=l.any fun x=>decide (r.2.1 < x.2.1)
def Qjc (r:Int×Int×List Nat)(l:List (Int×Int×List Nat)):List (Int×Int×List Nat):=if Qmm r l then Qf7 r l else l
theorem Qj9 (r x:Int×Int×List Nat)(l:List (Int×Int×List Nat)):Qmm r (l++[x])=(Qmm r l || decide (r.2.1 < x.2.1)):=by
 unfold Qmm
 simp
theorem Qoc (r:Int×Int×List Nat):∀ l:List (Int×Int×List Nat),Qmm r l=false→Qf7 r l=l++[r]
 | [],_=>rfl
 | x :: l,h=>by
  unfold Qmm at h
  simp only [List.any_cons,Bool.or_eq_false_iff,decide_eq_false_iff_not] at h
  rw [Qf7,if_neg h.1,Qoc r l h.2]
  rfl
theorem Qp6 (r x:Int×Int×List Nat)(hx:r.2.1 < x.2.1):∀ l:List (Int×Int×List Nat),Qmm r l=false→Qf7 r (l++[x])=l++[r]++[x]
 | [],_=>by rw [List.nil_append,Qf7,if_pos hx]; rfl
 | y :: l,h=>by
  unfold Qmm at h
  simp only [List.any_cons,Bool.or_eq_false_iff,decide_eq_false_iff_not] at h
  rw [List.cons_append,Qf7,if_neg h.1,Qp6 r x hx l h.2]
  rfl
theorem Qng (r x:Int×Int×List Nat):∀ l:List (Int×Int×List Nat),Qmm r l=true→Qf7 r (l++[x])=Qf7 r l++[x]
 | [],h=>by cases h
 | y :: l,h=>by
  unfold Qmm at h
  simp only [List.any_cons,Bool.or_eq_true,decide_eq_true_eq] at h
  by_cases hy:r.2.1 < y.2.1
  ·rw [List.cons_append,Qf7,if_pos hy,Qf7,if_pos hy]
   rfl
  ·rw [List.cons_append,Qf7,if_neg hy,Qf7,if_neg hy,Qng r x l (h.resolve_left hy)]
   rfl
theorem Qn5 (r x:Int×Int×List Nat)(l:List (Int×Int×List Nat))(h:Qmm r l=true∨¬ r.2.1 < x.2.1):Qjc r (l++[x])=Qjc r l++[x]:=by
 unfold Qjc
 rw [Qj9]
 cases hp:Qmm r l
 ·have h2:=h.resolve_left (by simp [hp])
  rw [decide_eq_false h2]
  rfl
 ·rw [Bool.true_or,if_pos rfl,if_pos rfl,Qng r x l hp]
theorem Qw1 (r x:Int×Int×List Nat)(l:List (Int×Int×List Nat))(h:Qmm r l=false)(hx:r.2.1 < x.2.1):Qjc r (l++[x])=Qjc r l++[r]++[x]:=by
 unfold Qjc
 rw [Qj9,h,decide_eq_true hx,Bool.false_or,if_pos rfl,if_neg (by simp),Qp6 r x hx l h]
theorem Qw0 (r:Int×Int×List Nat)(l:List (Int×Int×List Nat)):Qf7 r l=if Qmm r l then Qjc r l else Qjc r l++[r]:=by
 unfold Qjc
 cases h:Qmm r l
 ·simp only [Bool.false_eq_true,if_false]
  exact Qoc r l h
 ·simp only [if_true]
theorem Qqn (r:Int×Int×List Nat)(l:List (Int×Int×List Nat)):(Qjc r l).length≤l.length+1:=by
 have h:∀ l:List (Int×Int×List Nat),(Qf7 r l).length=l.length+1:=fun l=>by
  induction l with
  | nil=>rfl
  | cons x l ih =>
   rw [Qf7]
   split
   ·rfl
   ·rw [List.length_cons,ih,List.length_cons]
 unfold Qjc
 split
 ·rw [h]; exact D _
 ·exact Nat.le_succ _
def Qf6 (w1:World)(B:Nat)(wq:World)(v:Value)(rs:List (Int×Int×List Nat)):Prop :=
 ∃ cs,wq.ownsRow w1.heap.size 102 3 v rs.length cs∧∀ i r,rs[i]?=Z r→cs[i * 3]?=Z (V Q r.1)∧cs[i * 3+1]?=Z (V Q r.2.1)∧∃ u,cs[i * 3+2]?=Z u∧w1.ownsRow B 5 1 u r.2.2.length (Qal r.2.2)
theorem Qf6.nil (w1:World)(B:Nat)(wq:World):Qf6 w1 B wq (I J 0 0) []:=⟨[],Qbm _ _ _ _,fun i s h=>by simp at h⟩
theorem Qf6.later {w1 wq wp:World}{B:Nat}{v:Value}{rs:List (Int×Int×List Nat)} (h:Qf6 w1 B wq v rs) (hb:Below wq.heap.size wq wp):Qf6 w1 B wp v rs:=by
 obtain ⟨cs,ho,hc⟩:=h
 exact ⟨cs,Qaq ho hb,hc⟩
theorem Qf6.own {w1 wq:World}{B:Nat}{v:Value}{rs:List (Int×Int×List Nat)} (h:Qf6 w1 B wq v rs) (hb:Below w1.heap.size w1 wq) (hB:B≤w1.heap.size):Qbr wq B v rs:=by
 obtain ⟨cs,ho,hc⟩:=h
 refine ⟨cs,Qan ho hB,fun i r hi=>?_⟩
 obtain ⟨h1,h2,u,h3,h4⟩:=hc i r hi
 exact ⟨h1,h2,u,h3,Qaq h4 hb⟩
theorem Qf6.snoc {w1 wq:World}{B:Nat}{v u:Value}{rs:List (Int×Int×List Nat)}{f t:Int}{ds:List Nat} (h:Qf6 w1 B wq v rs) (hb:Below w1.heap.size w1 wq) (hu:w1.ownsRow B 5 1 u ds.length (Qal ds)) (hl:rs.length≤100000) :
  ∃ p' c' w',(Builtin.append_ #[32,32] 32 #[v,I (Z ⟨wq.heap.size,0,J⟩) 1 1]).run K (wq.alloc (.cells #[V Q f,V Q t,u] 102))=.ok (I p' (rs.length+1) c') w'∧Qf6 w1 B w' (I p' (rs.length+1) c') (rs++[(f,t,ds)])∧Below w1.heap.size wq w':=by
 obtain ⟨cs,ho,hc⟩:=h
 obtain ⟨v',w',hr,h2,h3⟩:=Qig elemRaw ho hb.size 1 [V Q f,V Q t,u] rfl (by intro x hx; simp at hx; rcases hx with rfl | rfl | rfl; rfl; rfl; exact Qlz hu) (by omega) wq.heap.size rfl
 obtain ⟨p',c',e'⟩:=Qbs h2
 subst e'
 refine ⟨p',c',w',hr,⟨_,by rw [E]; exact h2,fun i s hi=>?_⟩,h3⟩
 have hcl:cs.length=rs.length * 3:=ho.1
 by_cases hlt:i < rs.length
 ·rw [List.getElem?_append_left hlt] at hi
  obtain ⟨g1,g2,x,g3,g4⟩:=hc i s hi
  exact ⟨by rw [List.getElem?_append_left (by omega)]; exact g1,by rw [List.getElem?_append_left (by omega)]; exact g2,x,by rw [List.getElem?_append_left (by omega)]; exact g3,g4⟩
 ·rw [List.getElem?_append_right (by omega)] at hi
  have hi0:i - rs.length=0:=by
   have:=(List.getElem?_eq_some_iff.1 hi).1
   simpa using this
  rw [hi0] at hi
  simp at hi
  subst hi
  have e1:i=rs.length:=by omega
  subst e1
  exact ⟨by rw [List.getElem?_append_right (by omega),hcl,Nat.sub_self]; rfl,by rw [List.getElem?_append_right (by omega),show rs.length * 3+1 - cs.length=1 from by omega]; rfl,u,by rw [List.getElem?_append_right (by omega),show rs.length * 3+2 - cs.length=2 from by omega]; rfl,hu⟩
section
attribute [local go_sem ↓] Qey Qgj
theorem Qpv (X B:Nat)(a:At)(f t:Int)(da:Option Addr)(dn dc:Nat)(d:List Nat)(w:World)(hdn:d.length=dn)(hX:Box w X B a)(hB:B≤w.heap.size)(hr:BRd w da d)(hl:a.raws.length≤5000)(hdl:dn≤60000) :
  Calls K 48 #[.pointer (Z ⟨X,0,J⟩),.agg #[V Q f,V Q t,I da dn dc]] w fun e w'=>e=R (.tuple #[])∧Box w' X B { a with raws:=Qf7 (f,t,d) a.raws }∧Qae (fun k=>k=X) w w':=by
 have hXl:=hX.pos
 obtain ⟨p6,k6,q6,o6⟩:=hX.c6
 obtain ⟨m,hm⟩:∃ m,m=a.raws.length:=⟨_,rfl⟩
 rw [← hm] at q6 o6 hl
 -- the copy
 obtain ⟨wb,hwb⟩:∃ wb,wb=w.alloc (.cells #[V Q f,V Q t,I da dn dc] 102):=⟨_,rfl⟩
 have hbb:Below w.heap.size w wb:=by rw [hwb]; exact (U _ _).alloc (D _) _
 have hsb:wb.heap.size=w.heap.size+1:=by rw [hwb]; simp
 have cb:∀ j,wb.cell? ⟨w.heap.size,j,J⟩=#[V Q f,V Q t,I da dn dc][j]?:=fun j=>by rw [hwb]; exact World.cell?_alloc_mark _ _ _ _ j
 have fb:∀ j,wb.frozen? ⟨w.heap.size,j,J⟩=false:=fun j=>by
  rw [hwb]
  have h:=heap_alloc_new w (.cells #[V Q f,V Q t,I da dn dc] 102)
  simp only [World.frozen?,h]
  simp
 have hbe:Below wb.heap.size wb (wb.alloc (.cells #[] 5)):=(U _ _).alloc (D _) _
 obtain ⟨v1,w1,hr1,ho1,hb1⟩:=Qmc (n:=0) (ys:=[]) d da dc rfl (Qt5 wb) hbe.size (by omega) (hr.below (hbb.trans (hbe.mono hbb.size)))
 rw [List.nil_append] at ho1
 rw [hdn] at hr1
 obtain ⟨a1,c1,e1⟩:=Qbs ho1
 rw [hdn] at e1
 subst e1
 rw [hsb] at hr1
 have hb1':Below wb.heap.size wb w1:=hbe.trans hb1
 have hlt1:w.heap.size < wb.heap.size:=by omega
 have d0:w1.cell? ⟨w.heap.size,0,J⟩=Z (V Q f):=by rw [hb1'.cell (p:=⟨w.heap.size,0,J⟩) hlt1,cb]; rfl
 have d1:w1.cell? ⟨w.heap.size,1,J⟩=Z (V Q t):=by rw [hb1'.cell (p:=⟨w.heap.size,1,J⟩) hlt1,cb]; rfl
 have d2:w1.cell? ⟨w.heap.size,2,J⟩=Z (I da dn dc):=by rw [hb1'.cell (p:=⟨w.heap.size,2,J⟩) hlt1,cb]; rfl
 have d2f:w1.frozen? ⟨w.heap.size,2,J⟩=false:=by rw [hb1'.frozen (p:=⟨w.heap.size,2,J⟩) hlt1]; exact fb 2
 obtain ⟨w2,hw2⟩:∃ w2,w2=w1.setCell ⟨w.heap.size,2,J⟩ (I a1 dn c1):=⟨_,rfl⟩
 have e0:w2.cell? ⟨w.heap.size,0,J⟩=Z (V Q f):=by rw [hw2,World.cell?_setCell_other _ _ _ _ (by intro e9; injection e9 with _ e2 _; cases e2)]; exact d0
 have e1:w2.cell? ⟨w.heap.size,1,J⟩=Z (V Q t):=by rw [hw2,World.cell?_setCell_other _ _ _ _ (by intro e9; injection e9 with _ e2 _; cases e2)]; exact d1
 have e2:w2.cell? ⟨w.heap.size,2,J⟩=Z (I a1 dn c1):=by rw [hw2,World.cell?_setCell_same _ _ _ d2]
 have hw2b:Below w.heap.size w w2:=by rw [hw2]; exact (hbb.trans (hb1'.mono hbb.size)).setCell (D _) _
 have hs2:w.heap.size < w2.heap.size:=by have:=Y w2 _ e0; simpa using this
 have hu2:w2.ownsRow B 5 1 (I a1 dn c1) d.length (Qal d):=by rw [hw2]; exact Qan (Qac ho1 hlt1 _ _) (by omega)
 have HX2:=Qaa (hX.later hw2b)
 have HU2:=Qaa hu2
 have HB2:=Qaa hw2b
 have HE:Hid (∀ W,Below w2.heap.size w2 W→W.cell? ⟨w.heap.size,0,J⟩=Z (V Q f)∧W.cell? ⟨w.heap.size,1,J⟩=Z (V Q t)∧W.cell? ⟨w.heap.size,2,J⟩=Z (I a1 dn c1)∧W.cell? ⟨X,6,J⟩=Z (I p6 m k6)):=fun W hb=>by
  have hX2:X < w2.heap.size:=by omega
  refine ⟨?_,?_,?_,?_⟩
  ·rw [hb.cell (p:=⟨w.heap.size,0,J⟩) hs2]; exact e0
  ·rw [hb.cell (p:=⟨w.heap.size,1,J⟩) hs2]; exact e1
  ·rw [hb.cell (p:=⟨w.heap.size,2,J⟩) hs2]; exact e2
  ·rw [hb.cell (p:=⟨X,6,J⟩) hX2,hw2b.cell (p:=⟨X,6,J⟩) hXl]; exact q6
 obtain ⟨cs6,ho6,hc6⟩:=o6
 have HM:=Qaa hm
 have HR:Hid (∀ k (h:k < a.raws.length),∃ g6 u6,p6=Z ⟨g6,0,J⟩∧w2.ownsRow B 5 1 u6 a.raws[k].2.2.length (Qal a.raws[k].2.2)∧∀ W,Below w2.heap.size w2 W→g6 < W.heap.size∧W.cell? ⟨g6,k * 3,J⟩=Z (V Q a.raws[k].1)∧W.cell? ⟨g6,k * 3+1,J⟩=Z (V Q a.raws[k].2.1)∧W.cell? ⟨g6,k * 3+2,J⟩=Z u6):=fun k h=>by
  obtain ⟨g6,c6,e6,_,_⟩:=ho6.form (by omega)
  simp only [Value.slice.injEq] at e6
  obtain ⟨rfl,_,rfl⟩:=e6
  obtain ⟨z1,z2,u6,z3,z4⟩:=hc6 k a.raws[k] (List.getElem?_eq_getElem h)
  have hg:=Qb1 ho6 g6 rfl
  have ho:w2.ownsRow B 102 3 (I (Z ⟨g6,0,J⟩) a.raws.length k6) a.raws.length cs6:=by have h9:=Qaq ho6 hw2b; rw [hm] at h9; exact h9
  have hcl:cs6.length=a.raws.length * 3:=ho.1
  refine ⟨g6,u6,rfl,Qaq z4 hw2b,fun W hb=>?_⟩
  have hg2:g6 < w2.heap.size:=Nat.lt_of_lt_of_le hg.2 hw2b.size
  have t0:=ho.cellAt (k * 3) (show k * 3 < a.raws.length * 3 by omega)
  have t1:=ho.cellAt (k * 3+1) (show k * 3+1 < a.raws.length * 3 by omega)
  have t2:=ho.cellAt (k * 3+2) (show k * 3+2 < a.raws.length * 3 by omega)
  refine ⟨Nat.lt_of_lt_of_le hg2 hb.size,?_,?_,?_⟩
  ·rw [hb.cell (p:=⟨g6,k * 3,J⟩) hg2,t0]; exact z1
  ·rw [hb.cell (p:=⟨g6,k * 3+1,J⟩) hg2,t1]; exact z2
  ·rw [hb.cell (p:=⟨g6,k * 3+2,J⟩) hg2,t2]; exact z3
 have HR1:=Qaa hr1
 have hw2s:B≤w2.heap.size:=by have:=hw2b.size; omega
 clear hr1 ho1 hb1 hb1' hbe cb fb hX hr hu2 q6 ho6 hc6 hm
 go_enter Tryz.func48,Tryz.ntmps48
 go_wp2_with fail
 rw [← hwb]
 clear hwb
 refine Qdk _ _ (I (Z ⟨w.heap.size+1,0,J⟩) 0 0) (I da dn dc) (I a1 dn c1) (w':=w1) (by rfl) (by rfl) (by with_reducible exact HR1.out) ?_
 go_wp2_with fail
 rw [← hw2]
 clear hw2
 go_loopw [4,5,6] (fun u p i wq=>∃ k:Nat,k≤m∧i=V Q k∧p=.bool (Qmm (f,t,d) (a.raws.take k))∧Hid (Qf6 w2 B wq u (Qjc (f,t,d) (a.raws.take k)))∧Hid (Below w2.heap.size w2 wq)) (fun _ _ i _=>m - (intOf i).toNat)
 case atStart=>exact ⟨0,Nat.zero_le _,rfl,rfl,Qf6.nil _ _ _,U _ _⟩
 case round =>
  obtain ⟨k,hk,rfl,rfl,HL,HB⟩:=hrel
  obtain ⟨y0,y1,y2,y6⟩:=HE.out wr HB.out
  by_cases hlt:k < m
  ·have hkr:k < a.raws.length:=by have:=HM.out; omega
   obtain ⟨g6,u6,rfl,hu6,hcc⟩:=HR.out k hkr
   have htk:a.raws.take (k+1)=a.raws.take k++[a.raws[k]]:=List.take_succ_eq_append_getElem hkr
   obtain ⟨hgw,r0,r1,r2⟩:=hcc wr HB.out
   have HCC:=Qaa hcc
   have HLN:=Qaa (Qqn (f,t,d) (a.raws.take k))
   have hlk:(a.raws.take k).length≤5000:=by rw [List.length_take]; omega
   have i0:(0:Int)≤(k:Int):=Int.natCast_nonneg _
   have i1:(k:Int) < (m:Int):=by omega
   have HPS:=Qaa (Qj9 (f,t,d) a.raws[k] (a.raws.take k))
   have HU6:=Qaa hu6
   rw [← htk] at HPS
   clear hcc hu6
   cases hp:Qmm (f,t,d) (a.raws.take k)
   ·rw [hp] at HPS
    by_cases hgt:t < a.raws[k].2.1
    ·have HCP:=Qaa (Qw1 (f,t,d) a.raws[k] (a.raws.take k) hp hgt)
     rw [← htk] at HCP
     rw [decide_eq_true (show (f,t,d).2.1 < a.raws[k].2.1 from hgt),Bool.false_or] at HPS
     clear htk
     go_wp2_with fail
     go_quiet (fail)
     have hbd:Below wr.heap.size wr (wr.drewN nq):=Qaj (U _ _) nq
     have HLD:=Qaa (HL.out.later hbd)
     have HBD:=Qaa (Qaj HB.out nq)
     generalize wr.drewN nq=wd at *
     obtain ⟨y0,y1,y2,y6⟩:=HE.out wd HBD.out
     obtain ⟨hgw,r0,r1,r2⟩:=HCC.out wd HBD.out
     clear hbd
     obtain ⟨p4,c4,w4,hr4,hl4,hb4⟩:=HLD.out.snoc (f:=f) (t:=t) (ds:=d) HBD.out HU2.out (by have:=HLN.out; omega)
     have HL4:=Qaa hl4
     have HR4:=Qaa hr4
     have HB4:Hid (Below w2.heap.size w2 w4):=HBD.out.trans hb4
     clear hr4 hl4 hb4
     go_wp2_with fail
     refine Qb0 _ _ u4 (I (Z ⟨wd.heap.size,0,J⟩) 1 1) (I p4 ((Qjc (f,t,d) (a.raws.take k)).length+1) c4) (w':=w4) (by rfl) (by rfl) (by with_reducible exact HR4.out) ?_
     clear y0 y1 y2 y6 hgw r0 r1 r2
     obtain ⟨y0,y1,y2,y6⟩:=HE.out w4 HB4.out
     obtain ⟨hgw,r0,r1,r2⟩:=HCC.out w4 HB4.out
     obtain ⟨p5,c5,w5,hr5,hl5,hb5⟩:=HL4.out.snoc (f:=a.raws[k].1) (t:=a.raws[k].2.1) (ds:=a.raws[k].2.2) HB4.out HU6.out (by have:=HLN.out; rw [E]; simp only [List.length_cons,List.length_nil]; omega)
     have HL5:Hid (Qf6 w2 B w5 (I p5 ((Qjc (f,t,d) (a.raws.take k)++[(f,t,d)]).length+1) c5) (Qjc (f,t,d) (a.raws.take (k+1)))):=by show Qf6 _ _ _ _ _; rw [HCP.out]; exact hl5
     have HR5:=Qaa hr5
     have HB5:Hid (Below w2.heap.size w2 w5):=HB4.out.trans hb5
     clear hr5 hl5 hb5
     generalize a.raws[k].1=F at *
     generalize a.raws[k].2.1=T at *
     go_wp2_with fail
     refine Qb0 _ _ (I p4 ((Qjc (f,t,d) (a.raws.take k)).length+1) c4) (I (Z ⟨w4.heap.size,0,J⟩) 1 1) (I p5 ((Qjc (f,t,d) (a.raws.take k)++[(f,t,d)]).length+1) c5) (w':=w5) (by rfl) (by rfl) (by with_reducible exact HR5.out) ?_
     go_wp2_with fail
     exact ⟨⟨k+1,by omega,by go_num,by rw [HPS.out],(by have h9:=HL5; rw [E] at h9; exact h9),HB5⟩,by simp [intOf]; omega⟩
    ·have HCP:=Qaa (Qn5 (f,t,d) a.raws[k] (a.raws.take k) (.inr hgt))
     rw [← htk] at HCP
     rw [decide_eq_false (show ¬ (f,t,d).2.1 < a.raws[k].2.1 from hgt),Bool.false_or] at HPS
     have hgd:decide (t < a.raws[k].2.1)=false:=decide_eq_false hgt
     clear htk hgt
     go_wp2_with fail
     go_quiet (fail)
     have hbd:Below wr.heap.size wr (wr.drewN nq):=Qaj (U _ _) nq
     have HLD:=Qaa (HL.out.later hbd)
     have HBD:=Qaa (Qaj HB.out nq)
     generalize wr.drewN nq=wd at *
     obtain ⟨y0,y1,y2,y6⟩:=HE.out wd HBD.out
     obtain ⟨hgw,r0,r1,r2⟩:=HCC.out wd HBD.out
     clear hbd
     obtain ⟨p5,c5,w5,hr5,hl5,hb5⟩:=HLD.out.snoc (f:=a.raws[k].1) (t:=a.raws[k].2.1) (ds:=a.raws[k].2.2) HBD.out HU6.out (by have:=HLN.out; omega)
     have HL5:Hid (Qf6 w2 B w5 (I p5 ((Qjc (f,t,d) (a.raws.take k)).length+1) c5) (Qjc (f,t,d) (a.raws.take (k+1)))):=by show Qf6 _ _ _ _ _; rw [HCP.out]; exact hl5
     have HR5:=Qaa hr5
     have HB5:Hid (Below w2.heap.size w2 w5):=HBD.out.trans hb5
     clear hr5 hl5 hb5
     generalize a.raws[k].1=F at *
     generalize a.raws[k].2.1=T at *
     go_wp2_with fail
     refine Qb0 _ _ u4 (I (Z ⟨wd.heap.size,0,J⟩) 1 1) (I p5 ((Qjc (f,t,d) (a.raws.take k)).length+1) c5) (w':=w5) (by rfl) (by rfl) (by with_reducible exact HR5.out) ?_
     go_wp2_with fail
     exact ⟨⟨k+1,by omega,by go_num,by rw [HPS.out],HL5,HB5⟩,by simp [intOf]; omega⟩
   ·rw [hp,Bool.true_or] at HPS
    have HCP:=Qaa (Qn5 (f,t,d) a.raws[k] (a.raws.take k) (.inl hp))
    rw [← htk] at HCP
    clear htk
    go_wp2_with fail
    go_quiet (fail)
    have hbd:Below wr.heap.size wr (wr.drewN nq):=Qaj (U _ _) nq
    have HLD:=Qaa (HL.out.later hbd)
    have HBD:=Qaa (Qaj HB.out nq)
    generalize wr.drewN nq=wd at *
    obtain ⟨y0,y1,y2,y6⟩:=HE.out wd HBD.out
    obtain ⟨hgw,r0,r1,r2⟩:=HCC.out wd HBD.out
    clear hbd
    obtain ⟨p5,c5,w5,hr5,hl5,hb5⟩:=HLD.out.snoc (f:=a.raws[k].1) (t:=a.raws[k].2.1) (ds:=a.raws[k].2.2) HBD.out HU6.out (by have:=HLN.out; omega)
    have HL5:Hid (Qf6 w2 B w5 (I p5 ((Qjc (f,t,d) (a.raws.take k)).length+1) c5) (Qjc (f,t,d) (a.raws.take (k+1)))):=by show Qf6 _ _ _ _ _; rw [HCP.out]; exact hl5
    have HR5:=Qaa hr5
    have HB5:Hid (Below w2.heap.size w2 w5):=HBD.out.trans hb5
    clear hr5 hl5 hb5
    generalize a.raws[k].1=F at *
    generalize a.raws[k].2.1=T at *
    go_wp2_with fail
    refine Qb0 _ _ u4 (I (Z ⟨wd.heap.size,0,J⟩) 1 1) (I p5 ((Qjc (f,t,d) (a.raws.take k)).length+1) c5) (w':=w5) (by rfl) (by rfl) (by with_reducible exact HR5.out) ?_
    go_wp2_with fail
    exact ⟨⟨k+1,by omega,by go_num,by rw [HPS.out],HL5,HB5⟩,by simp [intOf]; omega⟩
  ·have hkm:a.raws.take k=a.raws:=List.take_of_length_le (by have:=HM.out; omega)
   rw [hkm] at HL
   have HCE:=Qaa (Qw0 (f,t,d) a.raws)
   have hlk:a.raws.length≤5000:=by have:=HM.out; omega
   have HLN:=Qaa (Qqn (f,t,d) a.raws)
   rw [hkm]
   cases hp:Qmm (f,t,d) a.raws
   ·rw [hp] at HCE
    simp only [Bool.false_eq_true,if_false] at HCE
    obtain ⟨p4,c4,w4,hr4,hl4,hb4⟩:=HL.out.snoc (f:=f) (t:=t) (ds:=d) HB.out HU2.out (by have:=HLN.out; omega)
    have HL4:=Qaa hl4
    have HR4:=Qaa hr4
    have HB4:Hid (Below w2.heap.size w2 w4):=HB.out.trans hb4
    clear hr4 hl4 hb4
    go_wp2_with fail
    refine Qb0 _ _ u4 (I (Z ⟨wr.heap.size,0,J⟩) 1 1) (I p4 ((Qjc (f,t,d) a.raws).length+1) c4) (w':=w4) (by rfl) (by rfl) (by with_reducible exact HR4.out) ?_
    have HX4:=Qaa (HX2.out.later HB4.out)
    have hxf:=HX4.out.fz 6
    obtain ⟨y0,y1,y2,y6⟩:=HE.out w4 HB4.out
    go_wp2
    go_end0
    refine ⟨rfl,?_,?_⟩
    ·refine HX4.out.set 6 _ rfl rfl rfl rfl rfl rfl ⟨p4,c4,?_,?_⟩
     ·rw [HCE.out,E]; rfl
     ·rw [HCE.out]; exact HL4.out.own HB4.out hw2s
    ·exact (Qae.of_below (HB2.out.trans (HB4.out.mono HB2.out.size)) _).setCell X 6 _ (.inl rfl)
   ·rw [hp] at HCE
    simp only [if_true] at HCE
    have HX4:=Qaa (HX2.out.later HB.out)
    have hxf:=HX4.out.fz 6
    obtain ⟨cs,hoc,_⟩:=HL.out
    obtain ⟨p4,c4,e4⟩:=Qbs hoc
    subst e4
    clear hoc
    go_wp2
    go_end0
    refine ⟨rfl,?_,?_⟩
    ·refine HX4.out.set 6 _ rfl rfl rfl rfl rfl rfl ⟨p4,c4,?_,?_⟩
     ·rw [HCE.out]
     ·rw [HCE.out]; exact HL.out.own HB.out hw2s
    ·exact (Qae.of_below (HB2.out.trans (HB.out.mono HB2.out.size)) _).setCell X 6 _ (.inl rfl)
end
