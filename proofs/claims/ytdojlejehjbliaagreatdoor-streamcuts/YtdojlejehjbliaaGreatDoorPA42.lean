import Derived.Test.YtdojlejehjbliaaGreatDoorPA41
namespace Go.Proofs.YtdojlejehjbliaaGreatDoor
set_option maxHeartbeats 6400000
open _root_.Nat renaming le_refl → I
open _root_.Go.Value renaming bool → J,int → Z
open _root_.Go.World renaming block_lt_of_cell? → V
open _root_.Go.IntKind renaming i64 → Q
open _root_.Option renaming some → Y,none → U
open _root_.List renaming length_drop → K
open Go.RowKit
set_option maxRecDepth 100000
structure Qx2 (w:World) (R:Nat):Prop where
  cells:∀ j,j < 9→∃ v,w.cell? ⟨R,j,U⟩=Y v
  free:∀ j,w.frozen? ⟨R,j,U⟩=false
theorem Qx2.keeps {w w':World}{R X:Nat} (h:Qx2 w R) (hne:R≠X) (hk:Qae (fun b=>b=X) w w'):Qx2 w' R:=by
  obtain ⟨v0,h0⟩:=h.cells 0 (by omega)
  have hs:=V w _ h0
  have hb:=hk.block R hs hne
  exact ⟨fun j hj=>by obtain ⟨v,hv⟩:=h.cells j hj; exact ⟨v,by rw [World.cell?_of_block hb]; exact hv⟩,fun j=>by rw [World.frozen?_of_block hb]; exact h.free j⟩
theorem Qfz {w w1:World}{B X e:Nat}{a:Option Addr}{m c:Nat}{cs:List Value} (ho:w.ownsRow B e 1 (.slice a m c) m cs) (hX:X < B) (hk:Qae (fun b=>b=X) w w1) (i:Nat) (hi:i < m):∃ g,a=Y ⟨g,0,U⟩∧g < w1.heap.size∧∀ v,cs[i]?=Y v→w1.cell? ⟨g,i,U⟩=Y v:=by
  obtain ⟨g,c',e1,hg,hh⟩:=ho.form (by omega)
  simp only [Value.slice.injEq] at e1
  obtain ⟨rfl,_,rfl⟩:=e1
  have hgb:=Qb1 ho g rfl
  refine ⟨g,rfl,Nat.lt_of_lt_of_le hgb.2 hk.size,fun v hv=>?_⟩
  rw [hk.cell ⟨g,i,U⟩ hgb.2 (by show g≠X; have:=hgb.1; omega),ho.cellAt i (by omega)]
  exact hv
theorem Qje {l:List (Nat×List Nat)}{i:Nat}{p:Nat×List Nat} (h:l[i]?=Y p):(Qbi (Qzx l))[i]?=Y (Z Q (p.1:Int)):=by simp [Qbi,Qzx,h]
theorem Qt3 {l:List (Nat×List Nat)}{i:Nat} (h:i < l.length):l.drop i=l[i] :: l.drop (i+1):=List.drop_eq_getElem_cons h
theorem pairs_in:∀ (n:Nat)(bs:List Nat)(l0 l:List (Nat×List Nat)),bs.length≤n→(∀ x∈bs,x < 256)→Qc7 (fun k v (l:List (Nat×List Nat))=>Y (l++[(k,v)])) bs l0=Y l →
    (∀ p∈l,p∈l0∨(p.2.length≤bs.length∧∀ x∈p.2,x < 256))∧l.length+l.length≤l0.length+l0.length+bs.length
  | n,bs,l0,l,hn,hb,he=>by
    by_cases h0:bs=[]
    · subst h0
      rw [Qhv] at he
      cases he
      exact ⟨fun p hp=>.inl hp,by simp⟩
    · cases ho:okE bs with
      | false=>rw [Qfx h0 ho] at he; cases he
      | true =>
        have h1:2≤bs.length:=(of_decide_eq_true ho).1
        cases n with
        | zero=>omega
        | succ n =>
          rw [Qhh ho] at he
          have ih:=pairs_in n (bs.drop (2+bs.getD 1 0)) (l0++[(bs.getD 0 0,(bs.drop 2).take (bs.getD 1 0))]) l (by rw [K]; omega) (fun x hx=>hb x (List.mem_of_mem_drop hx)) he
          refine ⟨fun p hp=>?_,?_⟩
          · rcases ih.1 p hp with h | ⟨h2,h3⟩
            · rcases List.mem_append.1 h with h | h
              · exact .inl h
              · simp only [List.mem_cons,List.not_mem_nil,or_false] at h
                subst h
                refine .inr ⟨?_,fun x hx=>hb x (List.mem_of_mem_drop (List.mem_of_mem_take hx))⟩
                simp only [List.length_take,K]
                omega
            · rw [K] at h2
              exact .inr ⟨by omega,h3⟩
          · have h5:=ih.2
            simp only [List.length_append,List.length_cons,List.length_nil,K] at h5
            omega
theorem Qjt (bs:List Nat)(hl:bs.length≤5000)(hb:∀ x∈bs,x < 256)(l:List (Nat×List Nat))(h:Qkl bs=Y l):l.length≤2500∧∀ p∈l,p.2.length≤5000∧∀ x∈p.2,x < 256:=by
  have h1:=pairs_in bs.length bs [] l (I _) hb h
  refine ⟨by have:=h1.2; simp only [List.length_nil] at this; omega,fun p hp=>?_⟩
  rcases h1.1 p hp with h2 | h2
  · simp at h2
  · exact ⟨by omega,h2.2⟩
theorem Qse (a:Option Addr)(cap:Nat)(bs:List Nat)(w:World)(hl:bs.length≤5000)(hcap:bs.length≤cap)(hr:BRd w a bs) :
    Calls Tryz.prog 24 #[.slice a bs.length cap] w fun e w'=>e=.returned (Qpy (Qfc bs))∧Below w.heap.size w w':=by
  obtain ⟨w0,hw0⟩:∃ w0,w0=(w.alloc zeroC).alloc zeroC:=⟨_,rfl⟩
  have hb0:Below w.heap.size w w0:=by rw [hw0]; exact ((Below.refl _ _).alloc (I _) _).alloc (by simp) _
  have hs0:w0.heap.size=w.heap.size+2:=by rw [hw0]; simp
  have hx0:Qeg w0 (w.heap.size+1) cp0:=by
    have h1:=Qji (w.alloc zeroC)
    simp only [World.size_alloc] at h1
    rw [hw0]
    refine ⟨h1,fun j=>?_⟩
    have h2:=World.frozen?_alloc_mark (w.alloc zeroC) #[J false,Z Q 0,J false,J false,Z Q 0,J false,J false,J false,Z Q 0] 26 0 0 j
    simp only [World.size_alloc] at h2
    unfold zeroC at *
    rw [h2]
    simp
  have hR0:Qx2 w0 w.heap.size:=by
    have hb:w0.heap[w.heap.size]?=(w.alloc zeroC).heap[w.heap.size]?:=by rw [hw0]; exact heap_alloc_old _ _ (by simp)
    have h1:=(Qji w).block hb
    refine ⟨fun j hj=>?_,fun j=>?_⟩
    · obtain ⟨k0,k1,k2,k3,k4,k5,k6,k7,k8⟩:=h1
      match j,hj with
      | 0,_=>exact ⟨_,k0⟩
      | 1,_=>exact ⟨_,k1⟩
      | 2,_=>exact ⟨_,k2⟩
      | 3,_=>exact ⟨_,k3⟩
      | 4,_=>exact ⟨_,k4⟩
      | 5,_=>exact ⟨_,k5⟩
      | 6,_=>exact ⟨_,k6⟩
      | 7,_=>exact ⟨_,k7⟩
      | 8,_=>exact ⟨_,k8⟩
    · rw [World.frozen?_of_block hb]
      have h2:=World.frozen?_alloc_mark w #[J false,Z Q 0,J false,J false,Z Q 0,J false,J false,J false,Z Q 0] 26 0 0 j
      unfold zeroC
      rw [h2]
      simp
  have HC:=Qaa (Qs4 (w.heap.size+1) a cap bs w0 hl hcap (hr.below hb0) (fun x hx hp=>by have:=hr.1.lt x hx hp; omega))
  obtain ⟨rc,hrc⟩:∃ rc,rc=Qfc bs:=⟨_,rfl⟩
  rw [← hrc]
  have HRC:Hid (rc=(Qkl bs).bind fun l=>Qef Qcu l cp0):=by show rc=_; rw [hrc]; exact Qns Qcu bs cp0
  clear hrc
  have HPL:Hid (∀ l,Qkl bs=Y l→l.length≤2500∧∀ p∈l,p.2.length≤5000∧∀ x∈p.2,x < 256):=fun l hp=>Qjt bs hl hr.2 l hp
  generalize Qkl bs=pr at *
  have HX0:=Qaa hx0
  have HR0:=Qaa hR0
  have HB0:=Qaa hb0
  have HS0:=Qaa hs0
  clear hx0 hR0 hb0 hr hl hcap hs0
  generalize bs.length=n at *
  go_enter Tryz.func24,Tryz.ntmps24
  go_wp2_with fail
  unfold zeroC at hw0
  rw [← hw0]
  refine HC.out.mono ?_
  rintro e w1 ⟨hcut,hb1⟩
  have HB1:Hid (Below w.heap.size w w1):=HB0.out.trans (hb1.mono HB0.out.size)
  have HX1:Hid (Qeg w1 (w.heap.size+1) cp0):=HX0.out.later hb1
  have HR1:Hid (Qx2 w1 w.heap.size):=HR0.out.keeps (X:=w.heap.size+1) (by omega) (Qae.of_below hb1 _)
  have HBW:=Qaa hb1
  clear hw0 hb1 HX0 HR0 HC
  cases hpr:pr with
  | none =>
    rw [hpr] at hcut HRC
    obtain rfl:e=_:=hcut
    have HNO:Hid (rc=U):=HRC.out
    have HRB:=HR1
    obtain ⟨q0,r0⟩:=HRB.out.cells 0 (by omega)
    obtain ⟨q1,r1⟩:=HRB.out.cells 1 (by omega)
    obtain ⟨q2,r2⟩:=HRB.out.cells 2 (by omega)
    obtain ⟨q3,r3⟩:=HRB.out.cells 3 (by omega)
    obtain ⟨q4,r4⟩:=HRB.out.cells 4 (by omega)
    obtain ⟨q5,r5⟩:=HRB.out.cells 5 (by omega)
    obtain ⟨q6,r6⟩:=HRB.out.cells 6 (by omega)
    obtain ⟨q7,r7⟩:=HRB.out.cells 7 (by omega)
    obtain ⟨q8,r8⟩:=HRB.out.cells 8 (by omega)
    have f0:=HRB.out.free 0
    have f1:=HRB.out.free 1
    have f2:=HRB.out.free 2
    have f3:=HRB.out.free 3
    have f4:=HRB.out.free 4
    have f5:=HRB.out.free 5
    have f6:=HRB.out.free 6
    have f7:=HRB.out.free 7
    have f8:=HRB.out.free 8
    have hRs:=V w1 _ r0
    simp only at hRs
    go_wp2_with fail
    refine bodyPost_ret (v:=.tuple #[.agg #[J false,Z Q 0,J false,J false,Z Q 0,J false,J false,J false,Z Q 0],J false]) (by simp [results,Tryz.results24,go_sem,r0,r1,r2,r3,r4,r5,r6,r7,r8]) rfl ⟨by rw [HNO.out]; rfl,?_⟩
    exact ((((((((HB1.out.setCell (I _) _).setCell (I _) _).setCell (I _) _).setCell (I _) _).setCell (I _) _).setCell (I _) _).setCell (I _) _).setCell (I _) _).setCell (I _) _
  | some l =>
    rw [hpr] at hcut HRC
    obtain ⟨t,v,cs,rfl,hot,hov,hsl⟩:=hcut
    have HRC2:Hid (rc=Qef Qcu l cp0):=HRC.out
    have HPL2:=Qaa (HPL.out l hpr)
    obtain ⟨ta,tc,rfl⟩:=Qbs hot
    obtain ⟨va,vc,rfl⟩:=Qbs hov
    obtain ⟨m,hm⟩:∃ m,l.length=m:=⟨_,rfl⟩
    rw [hm] at hot hov
    rw [hm]
    have HM:=Qaa hm
    have HOT:=Qaa hot
    have HOV:=Qaa hov
    have HSL:=Qaa hsl
    have hm5:m≤2500:=by have:=HPL2.out.1; omega
    clear hm hot hov hsl HPL HRC hpr
    go_wp2
    go_loopw [8] (fun iv wq=>∃ (i:Nat) (c:Cp),iv=Z Q (i:Int)∧i≤m∧Hid (rc=Qef Qcu (l.drop i) c)∧Hid (Qeg wq (w.heap.size+1) c)∧Hid (Qae (fun b=>b=w.heap.size+1) w1 wq)) (fun iv _=>m - (intOf iv).toNat)
    case atStart=>exact ⟨0,cp0,rfl,Nat.zero_le _,HRC2,HX1,Qae.refl _ _⟩
    case round =>
      clear HRC2 HX1
      obtain ⟨i,c,rfl,him,HRI,HXI,HKI⟩:=hrel
      have HBI:Hid (Below w.heap.size w wr):=HB1.out.trans (HKI.out.below w.heap.size HB1.out.size (fun b hb=>by omega))
      have HRB:Hid (Qx2 wr w.heap.size):=HR1.out.keeps (by omega) HKI.out
      by_cases hlt:i < m
      · have hil:i < l.length:=by rw [HM.out]; exact hlt
        obtain ⟨p,hp⟩:∃ p,p=l[i]:=⟨_,rfl⟩
        have hpg:l[i]?=Y p:=by rw [hp]; exact List.getElem?_eq_getElem hil
        have hfold:rc=(Qcu p.1 p.2 c).bind (Qef Qcu (l.drop (i+1))):=by rw [HRI.out,Qt3 hil,← hp]; rfl
        obtain ⟨gt,rfl,hgt,hct⟩:=Qfz HOT.out (by have:=HS0.out; omega) HKI.out i hlt
        obtain ⟨gv,rfl,hgv,hcv⟩:=Qfz HOV.out (by have:=HS0.out; omega) HKI.out i hlt
        obtain ⟨a2,c2,hcs,hc2,hbr,hbx⟩:=HSL.out i p hpg
        obtain ⟨hp5,hp256⟩:=HPL2.out.2 p (by rw [hp]; exact List.getElem_mem hil)
        have y0:wr.cell? ⟨gt,i,U⟩=Y (Z Q (p.1:Int)):=hct _ (Qje hpg)
        have y1:wr.cell? ⟨gv,i,U⟩=Y (.slice a2 p.2.length c2):=hcv _ hcs
        have hkw0:Qae (fun b=>b=w.heap.size+1) w0 wr:=(Qae.of_below HBW.out _).trans HKI.out (fun _ _ h=>h)
        have hbr2:BRd wr a2 p.2:=hbr.keeps hkw0 hbx
        have HC2:=Qaa (Qs4 (w.heap.size+1) a2 c2 p.2 wr hp5 hc2 hbr2 hbx)
        have HEC:Hid (∀ c,Qc7 Qa1 p.2 c=(Qkl p.2).bind fun l=>Qef Qa1 l c):=fun c=>Qns Qa1 p.2 c
        have HPS:Hid (∀ l2,Qkl p.2=Y l2→l2.length≤2500∧∀ p2∈l2,p2.2.length≤5000∧∀ x∈p2.2,x < 256):=fun l2 h2=>Qjt p.2 hp5 hp256 l2 h2
        have HFO:=Qaa hfold
        have HTG:Hid (∀ W,Qae (fun b=>b=w.heap.size+1) w1 W→W.cell? ⟨gt,i,U⟩=Y (Z Q (p.1:Int))∧gt < W.heap.size):=fun W hk=>by
          obtain ⟨g9,e9,h8,h9⟩:=Qfz HOT.out (by have:=HS0.out; omega) hk i hlt
          cases e9
          exact ⟨h9 _ (Qje hpg),h8⟩
        obtain ⟨k,vs⟩:=p
        simp only at y0 y1 HC2 HFO HEC HPS HTG
        generalize hprv:Qkl vs=prv at *
        clear hp hpg hfold hct hcv hcs hc2 hbr hbx hp5 hp256 hkw0 hbr2 hprv hil
        generalize vs.length=nv at *
        have hi0:(0:Int)≤(i:Int):=Int.natCast_nonneg _
        have hi1:(i:Int) < (m:Int):=by omega
        go_wp2_with fail
        refine HC2.out.mono ?_
        rintro e w2 ⟨hcut2,hb2⟩
        have HK2:Hid (Qae (fun b=>b=w.heap.size+1) w1 w2):=HKI.out.trans (Qae.of_below hb2 _) (fun _ _ h=>h)
        have HX2:Hid (Qeg w2 (w.heap.size+1) c):=HXI.out.later hb2
        have HB2:Hid (Below w.heap.size w w2):=HB1.out.trans (HK2.out.below w.heap.size HB1.out.size (fun b hb=>by omega))
        clear HRB
        have HRB:Hid (Qx2 w2 w.heap.size):=HR1.out.keeps (by omega) HK2.out
        obtain ⟨z0,hgt2⟩:=HTG.out w2 HK2.out
        clear y0 y1 HC2 HBI hgt hgv
        have HWR:Hid (wr.heap.size > w.heap.size+1):=by have:=HXI.out.size; exact this
        clear HXI HKI HRI
        by_cases hk2:k=2
        · cases prv with
          | none =>
            obtain rfl:e=_:=hcut2
            have HNO:Hid (rc=U):=by
              show rc=U
              rw [HFO.out]; unfold Qcu; rw [if_pos hk2,HEC.out c]; rfl
            subst hk2
            clear HFO HEC HPS HTG hb2
            obtain ⟨q0,r0⟩:=HRB.out.cells 0 (by omega)
            obtain ⟨q1,r1⟩:=HRB.out.cells 1 (by omega)
            obtain ⟨q2,r2⟩:=HRB.out.cells 2 (by omega)
            obtain ⟨q3,r3⟩:=HRB.out.cells 3 (by omega)
            obtain ⟨q4,r4⟩:=HRB.out.cells 4 (by omega)
            obtain ⟨q5,r5⟩:=HRB.out.cells 5 (by omega)
            obtain ⟨q6,r6⟩:=HRB.out.cells 6 (by omega)
            obtain ⟨q7,r7⟩:=HRB.out.cells 7 (by omega)
            obtain ⟨q8,r8⟩:=HRB.out.cells 8 (by omega)
            have f0:=HRB.out.free 0
            have f1:=HRB.out.free 1
            have f2:=HRB.out.free 2
            have f3:=HRB.out.free 3
            have f4:=HRB.out.free 4
            have f5:=HRB.out.free 5
            have f6:=HRB.out.free 6
            have f7:=HRB.out.free 7
            have f8:=HRB.out.free 8
            have hRs:=V w2 _ r0
            simp only at hRs
            go_wp2_with fail
            refine bodyPost_ret (v:=.tuple #[.agg #[J false,Z Q 0,J false,J false,Z Q 0,J false,J false,J false,Z Q 0],J false]) (by simp [results,Tryz.results24,go_sem,r0,r1,r2,r3,r4,r5,r6,r7,r8]) rfl ⟨by rw [HNO.out]; rfl,?_⟩
            exact ((((((((HB2.out.setCell (I _) _).setCell (I _) _).setCell (I _) _).setCell (I _) _).setCell (I _) _).setCell (I _) _).setCell (I _) _).setCell (I _) _).setCell (I _) _
          | some l2 =>
            obtain ⟨s,x,cs2,rfl,hos,hox,hsl2⟩:=hcut2
            have HPS2:=Qaa (HPS.out l2 rfl)
            have HEC2:Hid (∀ c,Qc7 Qa1 vs c=Qef Qa1 l2 c):=HEC.out
            have HFO2:Hid (rc=(Qc7 Qa1 vs c).bind (Qef Qcu (l.drop (i+1)))):=by
              show rc=_
              rw [HFO.out]; unfold Qcu; rw [if_pos hk2]
            subst hk2
            obtain ⟨sa,sc,rfl⟩:=Qbs hos
            obtain ⟨xa,xc,rfl⟩:=Qbs hox
            obtain ⟨m2,hm2⟩:∃ m2,l2.length=m2:=⟨_,rfl⟩
            rw [hm2] at hos hox
            rw [hm2]
            have HM2:=Qaa hm2
            have HOS:=Qaa hos
            have HOX:=Qaa hox
            have HSL2:=Qaa hsl2
            have hm25:m2≤2500:=by have:=HPS2.out.1; omega
            have HWB:=Qaa hb2
            clear hm2 hos hox hsl2 HFO HEC HPS hb2
            obtain ⟨wa,hwa⟩:∃ wa:World,wa=wr:=⟨wr,rfl⟩
            subst hwa
            go_wp2
            go_loopw [12] (fun iv wq=>∃ (q:Nat) (c':Cp),iv=Z Q (q:Int)∧q≤m2∧Hid (Qc7 Qa1 vs c=Qef Qa1 (l2.drop q) c')∧Hid (Qeg wq (w.heap.size+1) c')∧Hid (Qae (fun b=>b=w.heap.size+1) w2 wq)) (fun iv _=>m2 - (intOf iv).toNat)
            case atStart=>exact ⟨0,c,rfl,Nat.zero_le _,HEC2.out c,HX2,Qae.refl _ _⟩
            case round =>
              clear HX2 z0 hgt2 HRB HTG
              obtain ⟨q,c3,rfl,hqm,HEQ,HXQ,HKQ⟩:=hrel
              have HKW:Hid (Qae (fun b=>b=w.heap.size+1) w1 wr):=HK2.out.trans HKQ.out (fun _ _ h=>h)
              by_cases hql:q < m2
              · have hqll:q < l2.length:=by rw [HM2.out]; exact hql
                obtain ⟨p2,hp2⟩:∃ p2,p2=l2[q]:=⟨_,rfl⟩
                have hpg2:l2[q]?=Y p2:=by rw [hp2]; exact List.getElem?_eq_getElem hqll
                have hfold2:Qc7 Qa1 vs c=(Qa1 p2.1 p2.2 c3).bind (Qef Qa1 (l2.drop (q+1))):=by rw [HEQ.out,Qt3 hqll,← hp2]; rfl
                obtain ⟨gs,rfl,hgs,hcs3⟩:=Qfz HOS.out HWR.out HKQ.out q hql
                obtain ⟨gx,rfl,hgx,hcx⟩:=Qfz HOX.out HWR.out HKQ.out q hql
                obtain ⟨a3,c4,hcs4,hc4,hbr3,hbx3⟩:=HSL2.out q p2 hpg2
                obtain ⟨hp25,hp2256⟩:=HPS2.out.2 p2 (by rw [hp2]; exact List.getElem_mem hqll)
                have y0:wr.cell? ⟨gs,q,U⟩=Y (Z Q (p2.1:Int)):=hcs3 _ (Qje hpg2)
                have y1:wr.cell? ⟨gx,q,U⟩=Y (.slice a3 p2.2.length c4):=hcx _ hcs4
                have hkwa:Qae (fun b=>b=w.heap.size+1) wa wr:=(Qae.of_below HWB.out _).trans HKQ.out (fun _ _ h=>h)
                have hbr4:BRd wr a3 p2.2:=hbr3.keeps hkwa hbx3
                have hbd:Below wr.heap.size wr wr.drew:=(Below.refl _ _).drew
                have HRD:=Qaa (Qt6 (w.heap.size+1) c3 p2.1 a3 c4 p2.2 wr.drew (HXQ.out.later hbd) (hbr4.below hbd) hbx3 (by omega))
                have HFQ:=Qaa hfold2
                have HSC:Hid (∀ W,Qae (fun b=>b=w.heap.size+1) wr.drew W→W.cell? ⟨gs,q,U⟩=Y (Z Q (p2.1:Int))∧W.cell? ⟨gx,q,U⟩=Y (.slice a3 p2.2.length c4)):=fun W hk=>by
                  have hk9:Qae (fun b=>b=w.heap.size+1) w2 W:=HKQ.out.drew.trans hk (fun _ _ h=>h)
                  obtain ⟨g8,e8,_,h8⟩:=Qfz HOS.out HWR.out hk9 q hql
                  obtain ⟨g9,e9,_,h9⟩:=Qfz HOX.out HWR.out hk9 q hql
                  cases e8
                  cases e9
                  exact ⟨h8 _ (Qje hpg2),h9 _ hcs4⟩
                have HKD:Hid (Qae (fun b=>b=w.heap.size+1) w2 wr.drew):=HKQ.out.drew
                have HSD:Hid (wr.drew.cell? ⟨gs,q,U⟩=Y (Z Q (p2.1:Int))∧wr.drew.cell? ⟨gx,q,U⟩=Y (.slice a3 p2.2.length c4)):=⟨y0,y1⟩
                obtain ⟨k2,vs2⟩:=p2
                simp only at y0 y1 HRD HFQ HSC HSD
                clear hp2 hpg2 hfold2 hcs3 hcx hcs4 hc4 hbr3 hbx3 hp25 hp2256 hkwa hbr4 hbd hqll
                have hq0:(0:Int)≤(q:Int):=Int.natCast_nonneg _
                have hq1:(q:Int) < (m2:Int):=by omega
                cases hro:Qa1 k2 vs2 c3 with
                | none =>
                  rw [hro] at HRD HFQ
                  have HNO:Hid (rc=U):=by show rc=U; rw [HFO2.out,HFQ.out]; rfl
                  clear hro
                  generalize vs2.length=n2 at *
                  go_wp2_with fail
                  go_region_held3 (fun w'=>w'.cell? ⟨gs,q,U⟩=Y (Z Q (k2:Int))∧w'.cell? ⟨gx,q,U⟩=Y (.slice a3 n2 c4))
                    (with_reducible first | exact HSD.out | exact HS2.out | fail)
                    (first
                      | (go_at_call 45
                         with_reducible refine HRD.out.mono ?_
                         rintro e w3 ⟨ht,hk3⟩
                         obtain rfl:e=_:=ht
                         have HS2:=Qaa (HSC.out w3 hk3)
                         have HK3:=Qaa hk3
                         clear hk3))
                  all_goals have HK9:Hid (Qae (fun b=>b=w.heap.size+1) w1 w3):=HK2.out.trans (HKD.out.trans HK3.out (fun _ _ h=>h)) (fun _ _ h=>h)
                  all_goals have HB9:Hid (Below w.heap.size w w3):=HB1.out.trans (HK9.out.below w.heap.size HB1.out.size (fun b hb=>by omega))
                  all_goals have HRB:Hid (Qx2 w3 w.heap.size):=HR1.out.keeps (by omega) HK9.out
                  all_goals clear y0 y1 HSD HS2 HRD HFQ HSC
                  all_goals obtain ⟨q0,r0⟩:=HRB.out.cells 0 (by omega)
                  all_goals obtain ⟨q1,r1⟩:=HRB.out.cells 1 (by omega)
                  all_goals obtain ⟨q2,r2⟩:=HRB.out.cells 2 (by omega)
                  all_goals obtain ⟨q3,r3⟩:=HRB.out.cells 3 (by omega)
                  all_goals obtain ⟨q4,r4⟩:=HRB.out.cells 4 (by omega)
                  all_goals obtain ⟨q5,r5⟩:=HRB.out.cells 5 (by omega)
                  all_goals obtain ⟨q6,r6⟩:=HRB.out.cells 6 (by omega)
                  all_goals obtain ⟨q7,r7⟩:=HRB.out.cells 7 (by omega)
                  all_goals obtain ⟨q8,r8⟩:=HRB.out.cells 8 (by omega)
                  all_goals have f0:=HRB.out.free 0
                  all_goals have f1:=HRB.out.free 1
                  all_goals have f2:=HRB.out.free 2
                  all_goals have f3:=HRB.out.free 3
                  all_goals have f4:=HRB.out.free 4
                  all_goals have f5:=HRB.out.free 5
                  all_goals have f6:=HRB.out.free 6
                  all_goals have f7:=HRB.out.free 7
                  all_goals have f8:=HRB.out.free 8
                  all_goals have hRs:=V w3 _ r0
                  all_goals simp only at hRs
                  all_goals go_wp2_with fail
                  all_goals refine bodyPost_ret (v:=.tuple #[.agg #[J false,Z Q 0,J false,J false,Z Q 0,J false,J false,J false,Z Q 0],J false]) (by simp [results,Tryz.results24,go_sem,r0,r1,r2,r3,r4,r5,r6,r7,r8]) rfl ⟨by rw [HNO.out]; rfl,?_⟩
                  all_goals exact ((((((((HB9.out.setCell (I _) _).setCell (I _) _).setCell (I _) _).setCell (I _) _).setCell (I _) _).setCell (I _) _).setCell (I _) _).setCell (I _) _).setCell (I _) _
                | some c5 =>
                  rw [hro] at HRD HFQ
                  have HFQ2:Hid (Qc7 Qa1 vs c=Qef Qa1 (l2.drop (q+1)) c5):=HFQ.out
                  clear hro
                  generalize vs2.length=n2 at *
                  go_wp2_with fail
                  go_region_held3 (fun w'=>w'.cell? ⟨gs,q,U⟩=Y (Z Q (k2:Int))∧w'.cell? ⟨gx,q,U⟩=Y (.slice a3 n2 c4))
                    (with_reducible first | exact HSD.out | exact HS2.out | fail)
                    (first
                      | (go_at_call 45
                         with_reducible refine HRD.out.mono ?_
                         rintro e w3 ⟨ht,hk3⟩
                         obtain ⟨rfl,hx3⟩:=ht
                         have HX3:=Qaa hx3
                         have HS2:=Qaa (HSC.out w3 hk3)
                         have HK3:=Qaa hk3
                         clear hk3 hx3))
                  all_goals go_wp2
                  all_goals exact ⟨⟨q+1,c5,by go_num,by omega,HFQ2,HX3,HKD.out.trans HK3.out (fun _ _ h=>h)⟩,by simp [intOf]; omega⟩
              · have HEND:Hid (rc=Qef Qcu (l.drop (i+1)) c3):=by
                  show rc=_
                  rw [HFO2.out,HEQ.out,List.drop_eq_nil_of_le (by rw [HM2.out]; omega)]; rfl
                have hq9:¬ ((q:Int) < (m2:Int)):=by omega
                go_wp2
                exact ⟨⟨i+1,c3,by go_num,by omega,HEND,HXQ,HKW⟩,by simp [intOf]; omega⟩
        · have HNO:Hid (rc=U):=by
            show rc=U
            rw [HFO.out]; unfold Qcu; rw [if_neg hk2]; rfl
          have hk2i:((k:Int) != 2)=true:=by simp; omega
          have hsh:∃ (u1 u2:Value) (z:Bool),e=.returned (.tuple #[u1,u2,J z]):=by
            cases prv with
            | none=>exact ⟨_,_,_,hcut2⟩
            | some l2=>obtain ⟨s,x,cs2,h9,_⟩:=hcut2; exact ⟨_,_,_,h9⟩
          obtain ⟨u1,u2,zz,rfl⟩:=hsh
          clear HFO HEC HPS HTG hb2 hcut2 hk2
          obtain ⟨q0,r0⟩:=HRB.out.cells 0 (by omega)
          obtain ⟨q1,r1⟩:=HRB.out.cells 1 (by omega)
          obtain ⟨q2,r2⟩:=HRB.out.cells 2 (by omega)
          obtain ⟨q3,r3⟩:=HRB.out.cells 3 (by omega)
          obtain ⟨q4,r4⟩:=HRB.out.cells 4 (by omega)
          obtain ⟨q5,r5⟩:=HRB.out.cells 5 (by omega)
          obtain ⟨q6,r6⟩:=HRB.out.cells 6 (by omega)
          obtain ⟨q7,r7⟩:=HRB.out.cells 7 (by omega)
          obtain ⟨q8,r8⟩:=HRB.out.cells 8 (by omega)
          have f0:=HRB.out.free 0
          have f1:=HRB.out.free 1
          have f2:=HRB.out.free 2
          have f3:=HRB.out.free 3
          have f4:=HRB.out.free 4
          have f5:=HRB.out.free 5
          have f6:=HRB.out.free 6
          have f7:=HRB.out.free 7
          have f8:=HRB.out.free 8
          have hRs:=V w2 _ r0
          simp only at hRs
          go_wp2_with fail
          refine bodyPost_ret (v:=.tuple #[.agg #[J false,Z Q 0,J false,J false,Z Q 0,J false,J false,J false,Z Q 0],J false]) (by simp [results,Tryz.results24,go_sem,r0,r1,r2,r3,r4,r5,r6,r7,r8]) rfl ⟨by rw [HNO.out]; rfl,?_⟩
          exact ((((((((HB2.out.setCell (I _) _).setCell (I _) _).setCell (I _) _).setCell (I _) _).setCell (I _) _).setCell (I _) _).setCell (I _) _).setCell (I _) _).setCell (I _) _
      · have HND:Hid (rc=Y c):=by
          show rc=Y c
          rw [HRI.out,List.drop_eq_nil_of_le (by rw [HM.out]; omega)]; rfl
        have hi9:¬ ((i:Int) < (m:Int)):=by omega
        obtain ⟨x0,x1,x2,x3,x4,x5,x6,x7,x8⟩:=HXI.out.cells
        have hXs:=HXI.out.size
        obtain ⟨four,as4,gr,rs,tm,fam,fwd,ll,lt⟩:=c
        simp only at x0 x1 x2 x3 x4 x5 x6 x7 x8
        obtain ⟨q0,r0⟩:=HRB.out.cells 0 (by omega)
        obtain ⟨q1,r1⟩:=HRB.out.cells 1 (by omega)
        obtain ⟨q2,r2⟩:=HRB.out.cells 2 (by omega)
        obtain ⟨q3,r3⟩:=HRB.out.cells 3 (by omega)
        obtain ⟨q4,r4⟩:=HRB.out.cells 4 (by omega)
        obtain ⟨q5,r5⟩:=HRB.out.cells 5 (by omega)
        obtain ⟨q6,r6⟩:=HRB.out.cells 6 (by omega)
        obtain ⟨q7,r7⟩:=HRB.out.cells 7 (by omega)
        obtain ⟨q8,r8⟩:=HRB.out.cells 8 (by omega)
        have f0:=HRB.out.free 0
        have f1:=HRB.out.free 1
        have f2:=HRB.out.free 2
        have f3:=HRB.out.free 3
        have f4:=HRB.out.free 4
        have f5:=HRB.out.free 5
        have f6:=HRB.out.free 6
        have f7:=HRB.out.free 7
        have f8:=HRB.out.free 8
        have hRs:=V wr _ r0
        simp only at hRs
        go_wp2_with fail
        refine bodyPost_ret (v:=.tuple #[.agg #[J four,Z Q as4,J gr,J rs,Z Q tm,J fam,J fwd,J ll,Z Q lt],J true]) (by simp [results,Tryz.results24,go_sem,r0,r1,r2,r3,r4,r5,r6,r7,r8]) rfl ⟨by rw [HND.out]; rfl,?_⟩
        exact ((((((((HBI.out.setCell (I _) _).setCell (I _) _).setCell (I _) _).setCell (I _) _).setCell (I _) _).setCell (I _) _).setCell (I _) _).setCell (I _) _).setCell (I _) _
