import Derived.Test.YtdojlejehjbliaaGreatDoorPA33
import Derived.Deep.CutRange
namespace Go.Proofs.YtdojlejehjbliaaGreatDoor
set_option maxHeartbeats 12800000
open _root_.Go.Value renaming slice → I,int → J
open _root_.Go.IntKind renaming i64 → V
open _root_.Option renaming none → Z,some → K
open _root_.Go.RowKit.Below renaming refl → Q
open _root_.List renaming getElem?_cons_zero → Y,getElem?_cons_succ → U,getElem?_toArray → X
open _root_.Nat renaming le_refl → E
open _root_.Go.Obj renaming cells → D
open Go.RowKit
set_option maxRecDepth 100000
def Jbs (v:Value):Nat:=match v with
 | J _ i=>(4 - i).toNat
 | _=>0
theorem Qo1 (w:World)(j:Nat)(hj:j < 256):BRd (w.alloc (D #[J .u8 (j:Int)] 5)) (K ⟨w.heap.size,0,Z⟩) [j]:=by
 have h:=heap_alloc_new w (D #[J .u8 (j:Int)] 5)
 refine ⟨⟨by show 1≤maxLen; decide,fun _=>⟨w.heap.size,0,rfl,fun i hi=>?_⟩⟩,fun x hx=>by simp at hx; omega⟩
 obtain rfl:i=0:=by simp at hi; omega
 simp only [World.cell?,h]
 rfl
theorem Qev {bs:List Nat}{w w5:World}{s:Nat}{d:List Nat}{a9:Option Addr}{n c9:Nat} (hrun:Qbv bs=.inl (3,s,d)) (ho:w5.ownsRow (w.heap.size+1+1+1+1) 5 1 (I a9 d.length c9) d.length (Qal d)) (hb:Below w.heap.size w w5) (u0 u1 u2:Value) (hn:d.length=n) :
  Qj0 w (((w5.setCell ⟨w.heap.size+1,0,Z⟩ u0).setCell ⟨w.heap.size+1,1,Z⟩ u1).setCell ⟨w.heap.size+1,2,Z⟩ u2) (Qbv bs) (.returned (.tuple #[.agg #[J V 0,I Z 0 0,J .u32 0,J V 0,J V 0,I Z 0 0,I Z 0 0],.agg #[J V 3,J V (s:Int),I a9 n c9]]))∧Below w.heap.size w (((w5.setCell ⟨w.heap.size+1,0,Z⟩ u0).setCell ⟨w.heap.size+1,1,Z⟩ u1).setCell ⟨w.heap.size+1,2,Z⟩ u2):=by
 subst hn
 rw [hrun]
 refine ⟨⟨a9,c9,rfl,Qan (Qac (Qac (Qac ho (by omega) _ _) (by omega) _ _) (by omega) _ _) (by omega)⟩,?_⟩
 exact ((hb.setCell (by show w.heap.size≤w.heap.size+1; omega) _).setCell (by show w.heap.size≤w.heap.size+1; omega) _).setCell (by show w.heap.size≤w.heap.size+1; omega) _
theorem Qxg {bs:List Nat}{w W:World}{n:Nat×Nat×List Nat}{e:Ending} (hr:Qbv bs=.inl n) (h:Qj0 w W (Qbv bs) e∧Below w.heap.size w W):Qj0 w W.drew (Qbv bs) e∧Below w.heap.size w W.drew:=by
 rw [hr] at h ⊢
 obtain ⟨⟨a9,c9,he,ho⟩,hb⟩:=h
 exact ⟨⟨a9,c9,he,Qaq ho (Q _ _).drew⟩,hb.drew⟩
theorem Qy7 {bs:List Nat}{w wr W:World}{x:At}{p1 p5 p6:Option Addr}{k1 k5 k6:Nat} (hr:Qbv bs=.inr x) (hk:Qae (fun k=>k=w.heap.size∨k=w.heap.size+1) wr W) (o1:Qa7 wr (w.heap.size+1+1+1+1) (I p1 x.path.length k1) x.path) (o5:wr.ownsRow (w.heap.size+1+1+1+1) 24 1 (I p5 x.comms.length k5) x.comms.length (Qb8 x.comms)) (o6:Qbr wr (w.heap.size+1+1+1+1) (I p6 x.raws.length k6) x.raws) (hb:Below w.heap.size w wr) :
  Qj0 w W (Qbv bs) (.returned (.tuple #[.agg #[J V x.origin,I p1 x.path.length k1,J .u32 (x.next:Int),J V x.med,J V x.pref,I p5 x.comms.length k5,I p6 x.raws.length k6],.agg #[J V 0,J V 0,I Z 0 0]]))∧Below w.heap.size w W:=by
 rw [hr]
 have hF:∀ k,(fun k=>k=w.heap.size∨k=w.heap.size+1) k→k < w.heap.size+1+1+1+1:=fun k e=>by simp only at e; omega
 have r6:Qbr W (w.heap.size+1+1+1+1) (I p6 x.raws.length k6) x.raws:=by
  obtain ⟨cs,ho,hc⟩:=o6
  refine ⟨cs,Qdr ho hk hF,fun i s hi=>?_⟩
  obtain ⟨h1,h2,u,h3,h4⟩:=hc i s hi
  exact ⟨h1,h2,u,h3,Qdr h4 hk hF⟩
 exact ⟨⟨p1,k1,p5,k5,p6,k6,rfl,(o1.keeps hk hF).base (by omega),Qan (Qdr o5 hk hF) (by omega),r6.base (by omega)⟩,hb.trans (hk.below _ hb.size (fun k e=>by omega))⟩
theorem Qva (a:Option Addr)(c:Nat)(bs:List Nat)(w:World)(hl:bs.length≤5000)(hc:bs.length≤c)(h:BRd w a bs) :
  Calls Tryz.prog 27 #[I a bs.length c] w fun e w'=>Qj0 w w' (Qbv bs) e∧Below w.heap.size w w':=by
 have HS0:=Qaa (Qwh a bs w h)
 have HL:=Qaa hl
 clear h
 generalize hbl:bs.length=bl at *
 go_enter Tryz.func27,Tryz.ntmps27
 go_wp2_with (with_reducible refine Qno 97 _ (Qg2 _) ?_)
 simp only [Act.put,List.setIfInBounds_toArray,List.set_cons_zero,List.set_cons_succ,World.size_alloc]
 have hk:(((w.alloc (D #[J V 0,I Z 0 0,J .u32 0,J V 0,J V 0,I Z 0 0,I Z 0 0] 34)).alloc (D #[J V 0,J V 0,I Z 0 0] 38)).alloc (D #[J V 0,I Z 0 0,J .u32 0,J V (-1),J V (-1),I Z 0 0,I Z 0 0] 34)).alloc (D (Array.replicate 256 (.bool false)) 97)=rdW w:=rfl
 rw [hk]
 clear hk
 go_loopw [0] (fun v wq=>∃ rest a' c' x seen,v=I a' rest.length c'∧rest.length≤c'∧Hid (Qsp bs w wq rest a' x seen)) (fun v _=>sliceLen v)
 case atStart=>exact ⟨bs,a,c,_,_,by rw [hbl],by omega,HS0⟩
 case round =>
  clear HS0
  obtain ⟨rest,a',c',x,seen,rfl,hrc,HD⟩:=hrel
  have hrl5:rest.length≤5000:=by have:=HD.out.cr; omega
  by_cases hr0:0 < rest.length
  ·obtain ⟨b,o,rfl,hcw⟩:=HD.out.rd.1.2 hr0
   have hbl2:b < w.heap.size:=HD.out.low ⟨b,o,Z⟩ rfl hr0
   have hne0:rest≠[]:=List.length_pos_iff.1 hr0
   have HCW:Hid (∀ W,Below w.heap.size w W→∀ i,i < rest.length→W.cell? ⟨b,o+i,Z⟩=K (J .u8 (rest.getD i 0:Int))):=fun W hb i hi=>by rw [hb.cell (p:=⟨b,o+i,Z⟩) hbl2]; exact hcw i hi
   have HB0:=Qaa (HD.out.bel)
   obtain ⟨hh,hhd⟩:∃ hh,hh=Qbj (rest.getD 0 0):=⟨_,rfl⟩
   have hh34:(rest.getD 0 0 / 16 % 2=1∧hh=4)∨(rest.getD 0 0 / 16 % 2=0∧hh=3):=by
    rw [hhd]; unfold Qbj
    by_cases e:rest.getD 0 0 / 16 % 2=1
    ·rw [if_pos e]; exact .inl ⟨e,rfl⟩
    ·rw [if_neg e]; exact .inr ⟨by omega,rfl⟩
   obtain ⟨b0,hb0⟩:∃ b0,b0=rest.getD 0 0:=⟨_,rfl⟩
   obtain ⟨b1,hb1⟩:∃ b1,b1=rest.getD 1 0:=⟨_,rfl⟩
   obtain ⟨b2,hb2⟩:∃ b2,b2=rest.getD 2 0:=⟨_,rfl⟩
   obtain ⟨b3,hb3⟩:∃ b3,b3=rest.getD 3 0:=⟨_,rfl⟩
   obtain ⟨sz,hsz⟩:∃ sz,sz=Qbl rest:=⟨_,rfl⟩
   have hszv:sz=if b0 / 16 % 2=1 then 256 * b2+b3 else b2:=by rw [hsz,hb0,hb2,hb3]; rfl
   have l0:b0 < 256:=by rw [hb0]; exact Qgm HD.out.rd 0
   have l1:b1 < 256:=by rw [hb1]; exact Qgm HD.out.rd 1
   have l2:b2 < 256:=by rw [hb2]; exact Qgm HD.out.rd 2
   have l3:b3 < 256:=by rw [hb3]; exact Qgm HD.out.rd 3
   rw [← hb0] at hh34 hhd
   obtain ⟨n,hn⟩:∃ n,n=rest.length:=⟨_,rfl⟩
   have HY0:Hid (∀ W,Below w.heap.size w W→W.cell? ⟨b,o,Z⟩=K (J .u8 (b0:Int))):=fun W hb=>by have h9:=HCW.out W hb 0 hr0; rw [Nat.add_zero] at h9; rw [hb0]; exact h9
   have HY1:Hid (∀ W,Below w.heap.size w W→1 < n→W.cell? ⟨b,o+1,Z⟩=K (J .u8 (b1:Int))):=fun W hb hi=>by rw [hb1]; exact HCW.out W hb 1 (by omega)
   have HY2:Hid (∀ W,Below w.heap.size w W→2 < n→W.cell? ⟨b,o+2,Z⟩=K (J .u8 (b2:Int))):=fun W hb hi=>by rw [hb2]; exact HCW.out W hb 2 (by omega)
   have HY3:Hid (∀ W,Below w.heap.size w W→3 < n→W.cell? ⟨b,o+3,Z⟩=K (J .u8 (b3:Int))):=fun W hb hi=>by rw [hb3]; exact HCW.out W hb 3 (by omega)
   have HNO:Hid (¬ (hh≤n∧hh+sz≤n∧b1 ∉ seen)→Qbv bs=.inl (3,1,[])):=fun hno=>by
    rw [HD.out.run,Qkg hne0 (by rw [Qgo,← hb0,← hb1,← hsz,← hhd,← hn]; exact decide_eq_false hno)]
   have HGO:Hid (hh≤n∧hh+sz≤n∧b1 ∉ seen→Qbv bs=Qmp (Qdz x b0 b1 ((rest.drop hh).take sz) (rest.take (hh+sz))) fun a'=>Qpp (rest.drop (hh+sz)) a' (b1 :: seen)):=fun hgo=>by
    rw [HD.out.run,Qmh hne0 (by rw [Qgo,← hb0,← hb1,← hsz,← hhd,← hn]; exact decide_eq_true hgo),← hb0,← hb1,← hsz,← hhd]
   have HRD:=Qaa HD.out.rd
   have HN:=Qaa hn
   have HSZV:=Qaa hszv
   have HH34:=Qaa hh34
   have y0:=HY0.out wr HB0.out
   rw [← hn] at hr0 hrc hrl5 ⊢
   have i0:(0:Int) < (n:Int):=by omega
   clear hcw hhd hb0 hb1 hb2 hb3 hsz hszv hne0 hn HCW
   go_upto_if 23 with fail
   go_cut [6] from 15 to 122 (fun s6 wc=>s6=J V (hh:Int)∧wc=wr)
   case first =>
    rcases hh34 with ⟨hb,rfl⟩ | ⟨hb,rfl⟩
    ·have hb':(b0:Int) / 16 % 2=1:=by omega
     go_wp2_with fail
     go_meet
     exact ⟨rfl,rfl⟩
    ·have hb':(b0:Int) / 16 % 2=0:=by omega
     go_wp2_with fail
     go_meet
     exact ⟨rfl,rfl⟩
   case rest =>
    obtain ⟨e6,ewc⟩:=hcut
    subst e6 ewc
    obtain ⟨w1,hw1⟩:∃ w1:World,w1=wc:=⟨wc,rfl⟩
    subst hw1
    have hh3:3≤hh∧hh≤4:=by omega
    by_cases hnh:n < hh
    ·have hni:(n:Int) < (hh:Int):=by omega
     clear hh34
     go_wp2_with fail
     refine (Qa9 3 1 Z 0 ([]) _ (by simp) (Qbf _ Z)).mono ?_
     rintro e w5 ⟨a9,c9,rfl,ho5,hb5⟩
     have HS5:=Qaa (HD.out.later ((Q w1.heap.size w1).trans (hb5.mono (Q w1.heap.size w1).size)))
     have HO5:=Qaa (Qan ho5 (Nat.le_trans HD.out.sz (Q w1.heap.size w1).size))
     have HRN:=Qaa (HNO.out (by omega))
     clear ho5 hb5
     obtain ⟨q0,qf0⟩:=Qag HS5.out.z2 0
     obtain ⟨q1,qf1⟩:=Qag HS5.out.z2 1
     obtain ⟨q2,qf2⟩:=Qag HS5.out.z2 2
     obtain ⟨q3,qf3⟩:=Qag HS5.out.z2 3
     obtain ⟨q4,qf4⟩:=Qag HS5.out.z2 4
     obtain ⟨q5,qf5⟩:=Qag HS5.out.z2 5
     obtain ⟨q6,qf6⟩:=Qag HS5.out.z2 6
     obtain ⟨s0,sf0⟩:=Qag HS5.out.z3 0
     obtain ⟨s1,sf1⟩:=Qag HS5.out.z3 1
     obtain ⟨s2,sf2⟩:=Qag HS5.out.z3 2
     simp only [X,Y,U] at q0 q1 q2 q3 q4 q5 q6 s0 s1 s2
     have hsz5:w.heap.size < w5.heap.size:=by have:=HS5.out.sz; omega
     have hsz6:w.heap.size+1 < w5.heap.size:=by have:=HS5.out.sz; omega
     go_wp2_with fail
     rw [Qez HS5.out.z2]
     refine bodyPost_ret (v:=.tuple #[.agg #[J V 0,I Z 0 0,J .u32 0,J V 0,J V 0,I Z 0 0,I Z 0 0],.agg #[J V 3,J V 1,I a9 0 c9]]) (by simp [results,Tryz.results27,go_sem,q0,q1,q2,q3,q4,q5,q6,s0,s1,s2]) rfl ?_
     exact Qev HRN.out HO5.out HS5.out.bel _ _ _ (rfl)
    ·have hni:decide ((n:Int) < (hh:Int))=false:=decide_eq_false (by omega)
     have y2:=HY2.out w1 HB0.out (by omega)
     have i2:(2:Int) < (n:Int):=by omega
     have i1:(1:Int) < (n:Int):=by omega
     clear hh34
     go_upto_if 35 with fail
     go_cut [7] from 15 to 122 (fun s7 wd=>s7=J V (sz:Int)∧Hid (Below w1.heap.size w1 wd))
     case first =>
      rcases HH34.out with ⟨hb,rfl⟩ | ⟨hb,rfl⟩
      ·have y3:=HY3.out w1 HB0.out (by omega)
       have i3:(3:Int) < (n:Int):=by omega
       have hsv:(256:Int) * (b2:Int)+(b3:Int)=(sz:Int):=by have:=HSZV.out; rw [if_pos hb] at this; omega
       go_wp2_with fail
       go_quiet (fail)
       go_wp2
       go_meet
       exact ⟨rfl,Qaj (Q _ _) nq⟩
      ·have hsv:(b2:Int)=(sz:Int):=by have:=HSZV.out; rw [if_neg (by omega)] at this; omega
       go_wp2_with fail
       go_meet
       exact ⟨rfl,Q _ _⟩
     case rest =>
      obtain ⟨e7,HBd⟩:=hcut
      subst e7
      obtain ⟨w2,hw2⟩:∃ w2:World,w2=wc:=⟨wc,rfl⟩
      subst hw2
      have HD2:=Qaa (HD.out.later HBd.out)
      have y1:=HY1.out w2 HD2.out.bel (by omega)
      have y0:=HY0.out w2 HD2.out.bel
      obtain ⟨cy,fy⟩:=HD2.out.stood b1 l1
      have k0:(0:Int)≤(b1:Int):=Int.natCast_nonneg _
      have k1:(b1:Int) < 256:=by omega
      have hszb:sz < 65536:=by have:=HSZV.out; split at this <;> omega
      by_cases hlong:n < hh+sz
      ·have hli:(n:Int) < (hh:Int)+(sz:Int):=by omega
       go_wp2_with fail
       refine (Qa9 3 1 Z 0 ([]) _ (by simp) (Qbf _ Z)).mono ?_
       rintro e w5 ⟨a9,c9,rfl,ho5,hb5⟩
       have HS5:=Qaa (HD2.out.later ((Q w2.heap.size w2).trans (hb5.mono (Q w2.heap.size w2).size)))
       have HO5:=Qaa (Qan ho5 (Nat.le_trans HD2.out.sz (Q w2.heap.size w2).size))
       have HRN:=Qaa (HNO.out (by omega))
       clear ho5 hb5
       obtain ⟨q0,qf0⟩:=Qag HS5.out.z2 0
       obtain ⟨q1,qf1⟩:=Qag HS5.out.z2 1
       obtain ⟨q2,qf2⟩:=Qag HS5.out.z2 2
       obtain ⟨q3,qf3⟩:=Qag HS5.out.z2 3
       obtain ⟨q4,qf4⟩:=Qag HS5.out.z2 4
       obtain ⟨q5,qf5⟩:=Qag HS5.out.z2 5
       obtain ⟨q6,qf6⟩:=Qag HS5.out.z2 6
       obtain ⟨s0,sf0⟩:=Qag HS5.out.z3 0
       obtain ⟨s1,sf1⟩:=Qag HS5.out.z3 1
       obtain ⟨s2,sf2⟩:=Qag HS5.out.z3 2
       simp only [X,Y,U] at q0 q1 q2 q3 q4 q5 q6 s0 s1 s2
       have hsz5:w.heap.size < w5.heap.size:=by have:=HS5.out.sz; omega
       have hsz6:w.heap.size+1 < w5.heap.size:=by have:=HS5.out.sz; omega
       go_wp2_with fail
       rw [Qez HS5.out.z2]
       refine bodyPost_ret (v:=.tuple #[.agg #[J V 0,I Z 0 0,J .u32 0,J V 0,J V 0,I Z 0 0,I Z 0 0],.agg #[J V 3,J V 1,I a9 0 c9]]) (by simp [results,Tryz.results27,go_sem,q0,q1,q2,q3,q4,q5,q6,s0,s1,s2]) rfl ?_
       exact Qev HRN.out HO5.out HS5.out.bel _ _ _ (rfl)
      ·have hli:decide ((n:Int) < (hh:Int)+(sz:Int))=false:=decide_eq_false (by omega)
       by_cases hseen:b1∈seen
       ·rw [decide_eq_true hseen] at cy
        go_wp2_with fail
        refine (Qa9 3 1 Z 0 ([]) _ (by simp) (Qbf _ Z)).mono ?_
        rintro e w5 ⟨a9,c9,rfl,ho5,hb5⟩
        have HS5:=Qaa (HD2.out.later ((Q w2.heap.size w2).trans (hb5.mono (Q w2.heap.size w2).size)))
        have HO5:=Qaa (Qan ho5 (Nat.le_trans HD2.out.sz (Q w2.heap.size w2).size))
        have HRN:=Qaa (HNO.out (fun h9=>h9.2.2 hseen))
        clear ho5 hb5
        obtain ⟨q0,qf0⟩:=Qag HS5.out.z2 0
        obtain ⟨q1,qf1⟩:=Qag HS5.out.z2 1
        obtain ⟨q2,qf2⟩:=Qag HS5.out.z2 2
        obtain ⟨q3,qf3⟩:=Qag HS5.out.z2 3
        obtain ⟨q4,qf4⟩:=Qag HS5.out.z2 4
        obtain ⟨q5,qf5⟩:=Qag HS5.out.z2 5
        obtain ⟨q6,qf6⟩:=Qag HS5.out.z2 6
        obtain ⟨s0,sf0⟩:=Qag HS5.out.z3 0
        obtain ⟨s1,sf1⟩:=Qag HS5.out.z3 1
        obtain ⟨s2,sf2⟩:=Qag HS5.out.z3 2
        simp only [X,Y,U] at q0 q1 q2 q3 q4 q5 q6 s0 s1 s2
        have hsz5:w.heap.size < w5.heap.size:=by have:=HS5.out.sz; omega
        have hsz6:w.heap.size+1 < w5.heap.size:=by have:=HS5.out.sz; omega
        go_wp2_with fail
        rw [Qez HS5.out.z2]
        refine bodyPost_ret (v:=.tuple #[.agg #[J V 0,I Z 0 0,J .u32 0,J V 0,J V 0,I Z 0 0,I Z 0 0],.agg #[J V 3,J V 1,I a9 0 c9]]) (by simp [results,Tryz.results27,go_sem,q0,q1,q2,q3,q4,q5,q6,s0,s1,s2]) rfl ?_
        exact Qev HRN.out HO5.out HS5.out.bel _ _ _ (rfl)
       ·rw [decide_eq_false hseen] at cy
        have HRUN:=Qaa (HGO.out ⟨by omega,by omega,hseen⟩)
        have hle2:(hh:Int)+(sz:Int)≤(n:Int):=by omega
        have hle3:(n:Int)≤(c':Int):=by omega
        have hle4:(hh:Int)≤(hh:Int)+(sz:Int):=by omega
        have hle5:(0:Int)≤(hh:Int)+(sz:Int):=by omega
        have hle6:(hh:Int)+(sz:Int)≤(c':Int):=by omega
        have hle7:(0:Int)≤(hh:Int):=by omega
        have hwr:IntKind.i64.wrap ((hh:Int)+(sz:Int))=(hh:Int)+(sz:Int):=by rw [IntKind.wrap_i64]; omega
        have hdl:((rest.drop hh).take sz).length=sz:=by rw [List.length_take,List.length_drop,← HN.out]; omega
        have hal:(rest.take (hh+sz)).length=hh+sz:=by rw [List.length_take,← HN.out]; omega
        have HDR:Hid (BRd w (K ⟨b,o+hh,Z⟩) ((rest.drop hh).take sz)):=Qcq HRD.out hh sz (by rw [← HN.out]; omega)
        have HAR:Hid (BRd w (K ⟨b,o,Z⟩) (rest.take (hh+sz))):=Qe8 HRD.out _
        have HDL:=Qaa hdl
        have HAL:=Qaa hal
        go_upto_region 14 with fail
        go_cut [8,9,10,11] from 15 to 122 (fun s8 s9 s10 s11 wd=>s8=J V (b0:Int)∧s9=J V (b1:Int)∧s10=I (K ⟨b,o,Z⟩) (hh+sz) c'∧(∃ ia,s11=I ia sz (c' - hh)∧Hid (BRd w ia ((rest.drop hh).take sz))∧Hid (∀ y,ia=K y→y.block=b))∧Hid (Below w2.heap.size w2 wd))
        case first =>
         by_cases hch:c'=hh
         ·have hsz0:sz=0:=by omega
          subst hsz0 hch
          go_quiet (fail)
          go_wp2
          go_meet
          exact ⟨rfl,rfl,rfl,⟨K ⟨b,o,Z⟩,by simp,by rw [List.take_zero]; exact Qbf _ _,fun y hy=>by cases hy; rfl⟩,Qaj (Q _ _) nq⟩
         ·go_quiet (fail)
          go_wp2
          go_meet
          exact ⟨rfl,rfl,rfl,⟨K ⟨b,o+hh,Z⟩,by rw [Nat.add_sub_cancel_left],HDR,fun y hy=>by cases hy; rfl⟩,Qaj (Q _ _) nq⟩
        case rest =>
         obtain ⟨e8,e9,e10,⟨ia,e11,HIR,HIB⟩,HBe⟩:=hcut
         subst e8 e9 e10 e11
         obtain ⟨w3,hw3⟩:∃ w3:World,w3=wc:=⟨wc,rfl⟩
         subst hw3
         have HD3:=Qaa (HD2.out.later HBe.out)
         clear cy fy y0 y1
         obtain ⟨cy,fy⟩:=HD3.out.stood b1 l1
         obtain ⟨w4,hw4⟩:∃ w4,w4=w3.setCell ⟨w.heap.size+1+1+1,b1,Z⟩ (.bool true):=⟨_,rfl⟩
         have HST4:Hid (Qh0 w4 (w.heap.size+1+1+1) (b1 :: seen)):=by show Qh0 _ _ _; rw [hw4]; exact HD3.out.stood.put b1 l1
         have HKS:Hid (Qae (fun k=>k=w.heap.size+1+1+1) w3 w4):=by show Qae _ _ _; rw [hw4]; exact (Qae.refl _ _).setCell _ _ _ (.inl rfl)
         have hsz3:=HD3.out.sz
         have HBX4:Hid (Box w4 (w.heap.size+1+1) (w.heap.size+1+1+1+1) x):=by show Box _ _ _ _; rw [hw4]; exact Qna HD3.out.box ⟨by omega,by omega⟩ _ _
         have hrl:(rest.drop (hh+sz)).length=n - (hh+sz):=by rw [List.length_drop,← HN.out]
         have HRL:=Qaa hrl
         have HRR:Hid (BRd w (K ⟨b,o+(hh+sz),Z⟩) (rest.drop (hh+sz))):=by
          have h9:=Qcq HRD.out (hh+sz) (n - (hh+sz)) (by rw [← HN.out]; omega)
          rw [List.take_of_length_le (by rw [hrl]; exact E _)] at h9
          exact h9
         go_upto_region 16 with fail
         rw [← hw4]
         clear hw4 cy fy
         go_cut [0] from 15 to 122 (fun s0 wd=>(∃ ra,s0=I ra (n - (hh+sz)) (c' - (hh+sz))∧Hid (BRd w ra (rest.drop (hh+sz))))∧wd=w4)
         case first =>
          by_cases hce:c'=hh+sz
          ·have hn':n - (hh+sz)=0:=by omega
           have hnil:rest.drop (hh+sz)=[]:=List.eq_nil_of_length_eq_zero (by rw [hrl]; exact hn')
           subst hce
           go_wp2_with fail
           go_meet
           exact ⟨⟨K ⟨b,o,Z⟩,by simp,by rw [hnil]; exact Qbf _ _⟩,rfl⟩
          ·go_wp2_with fail
           go_meet
           exact ⟨⟨K ⟨b,o+(hh+sz),Z⟩,rfl,HRR⟩,rfl⟩
         case rest =>
          obtain ⟨⟨ra,e0,HRA⟩,ewc⟩:=hcut
          subst e0 ewc
          obtain ⟨w4,hw4⟩:∃ w4:World,w4=wc:=⟨wc,rfl⟩
          subst hw4
          have HB4:Hid (Below w.heap.size w w4):=HD3.out.bel.trans (HKS.out.below _ HD3.out.bel.size (fun k hk=>by omega))
          have hs4:w.heap.size+1+1+1+1≤w4.heap.size:=Nat.le_trans hsz3 HKS.out.size
          have hcr:=HD.out.cr
          have hcc:=HD.out.cc
          rw [← HN.out] at hcr hcc
          clear hrl hdl hal
          by_cases hty:1≤b1∧b1≤8
          ·have t1:(1:Int)≤(b1:Int):=by omega
           have t8:(b1:Int)≤8:=by omega
           have KX:=Qaa (Qsg b1 hty.1 hty.2 b0 (w.heap.size+1+1) (w.heap.size+1+1+1+1) x ia (c' - hh) (K ⟨b,o,Z⟩) c' ((rest.drop hh).take sz) (rest.take (hh+sz)) w4 l0 HBX4.out hs4 (by rw [HDL.out]; omega) (HIR.out.below HB4.out) (by rw [HAL.out]; omega) (HAR.out.below HB4.out) (fun y hy _=>by have:=HIB.out y hy; omega) (fun y hy _=>by cases hy; show b < _; omega) (by omega) (by omega) (by rw [HDL.out]; omega))
           rw [HDL.out,HAL.out] at KX
           have happ:Qdz x b0 b1 ((rest.drop hh).take sz) (rest.take (hh+sz))=Qc8 x b0 b1 ((rest.drop hh).take sz) (rest.take (hh+sz)):=by unfold Qdz; rw [if_pos hty]
           rw [happ] at HRUN
           cases hkn:Qc8 x b0 b1 ((rest.drop hh).take sz) (rest.take (hh+sz)) with
           | inl nn =>
            obtain ⟨k3,kd⟩:=Qir hkn
            rw [hkn] at KX HRUN
            obtain ⟨nc,ns,nd⟩:=nn
            simp only at k3
            subst k3
            go_wp2_with fail
            refine KX.out.mono ?_
            rintro e w5 ⟨a9,c9,rfl,ho5,hk5⟩
            have HZ5:=Qaa ((HD3.out.zero.keeps HKS.out (fun k e=>by omega)).keeps hk5 (fun k e=>by unfold Qa2 at e; omega))
            have HO5:=Qaa (Qan ho5 hs4)
            clear ho5 hk5
            go_wp2_with fail
            obtain ⟨w6,hw6⟩:∃ w6,w6=w5.alloc (D #[J V 3,J V (ns:Int),I a9 nd.length c9] 38):=⟨_,rfl⟩
            have HB6:Hid (Below w5.heap.size w5 w6):=by show Below _ _ _; rw [hw6]; exact (Q _ _).alloc (E _) _
            have h6:w6.heap[w5.heap.size]?=K (D #[J V 3,J V (ns:Int),I a9 nd.length c9] 38 (0,0)):=by rw [hw6]; exact heap_alloc_new _ _
            rw [← hw6]
            clear hw6
            obtain ⟨g0,gf0⟩:=Qag h6 0
            obtain ⟨g1,gf1⟩:=Qag h6 1
            obtain ⟨g2,gf2⟩:=Qag h6 2
            have HZ6:=Qaa (HZ5.out.later HB6.out)
            have HO6:=Qaa (Qaq HO5.out HB6.out)
            obtain ⟨q0,qf0⟩:=Qag HZ6.out.z2 0
            obtain ⟨q1,qf1⟩:=Qag HZ6.out.z2 1
            obtain ⟨q2,qf2⟩:=Qag HZ6.out.z2 2
            obtain ⟨q3,qf3⟩:=Qag HZ6.out.z2 3
            obtain ⟨q4,qf4⟩:=Qag HZ6.out.z2 4
            obtain ⟨q5,qf5⟩:=Qag HZ6.out.z2 5
            obtain ⟨q6,qf6⟩:=Qag HZ6.out.z2 6
            obtain ⟨s0,sf0⟩:=Qag HZ6.out.z3 0
            obtain ⟨s1,sf1⟩:=Qag HZ6.out.z3 1
            obtain ⟨s2,sf2⟩:=Qag HZ6.out.z3 2
            simp only [X,Y,U] at q0 q1 q2 q3 q4 q5 q6 s0 s1 s2 g0 g1 g2
            have hsz5:w.heap.size < w6.heap.size:=by have:=HZ6.out.sz; omega
            have hsz6:w.heap.size+1 < w6.heap.size:=by have:=HZ6.out.sz; omega
            have hne1:w5.heap.size≠w.heap.size:=by have:=HZ5.out.sz; omega
            have hne2:w5.heap.size≠w.heap.size+1:=by have:=HZ5.out.sz; omega
            clear h6 HB4 hs4 HBX4 HST4 HKS KX hkn
            have HRN:Hid (Qbv bs=.inl (3,ns,nd)):=HRUN.out
            go_region
            all_goals go_wp2_with fail
            rw [Qez HZ6.out.z2]
            refine bodyPost_ret (v:=.tuple #[.agg #[J V 0,I Z 0 0,J .u32 0,J V 0,J V 0,I Z 0 0,I Z 0 0],.agg #[J V 3,J V (ns:Int),I a9 nd.length c9]]) (by simp [results,Tryz.results27,go_sem,q0,q1,q2,q3,q4,q5,q6,s0,s1,s2]) rfl ?_
            exact Qxg HRN.out (Qev HRN.out HO6.out HZ6.out.bel _ _ _ rfl)
           | inr x2 =>
            rw [hkn] at KX HRUN
            obtain ⟨m1,m2⟩:=Qo4 (happ.trans hkn)
            rw [HDL.out] at m2
            go_wp2_with fail
            refine KX.out.mono ?_
            rintro e w5 ⟨rfl,hb5,hk5⟩
            have HD5:=Qaa (HD3.out.next HKS.out HST4.out hk5 hb5 HRA.out HRUN.out (by rw [HRL.out]; omega) (by rw [HRL.out]; omega))
            clear hb5 hk5
            go_wp2_with fail
            exact ⟨⟨rest.drop (hh+sz),ra,c' - (hh+sz),x2,b1 :: seen,by rw [HRL.out],by rw [HRL.out]; omega,HD5.out.later ((Q _ _).alloc (E _) _)⟩,by simp [sliceLen]; omega⟩
          ·have HAP:Hid (Qdz x b0 b1 ((rest.drop hh).take sz) (rest.take (hh+sz))=if b0 < 128 then .inl (3,2,rest.take (hh+sz)) else if b0 / 64 % 2=0 then .inr x else if 255 < sz then .inl (3,9,rest.take (hh+sz)) else if 8 < b1 then .inr { x with raws:=Qf7 (224,((b1:Nat):Int),(rest.drop hh).take sz) x.raws } else .inr x):=by show _=_; unfold Qdz; rw [if_neg hty,HDL.out]
           obtain ⟨all,hall⟩:∃ all,all=rest.take (hh+sz):=⟨_,rfl⟩
           obtain ⟨dd,hdd⟩:∃ dd,dd=(rest.drop hh).take sz:=⟨_,rfl⟩
           rw [← hall] at HAP HRUN HAR HAL
           rw [← hdd] at HAP HRUN HIR HDL
           clear hall hdd
           have HZ4:=Qaa (HD3.out.zero.keeps HKS.out (fun k e=>by omega))
           rcases (by omega:b1=0∨8 < b1) with t0 | t0
           ·have T0:=Qaa t0
            have t1:decide ((1:Int)≤(b1:Int))=false:=decide_eq_false (by omega)
            have t9:decide ((8:Int) < (b1:Int))=false:=decide_eq_false (by omega)
            clear t0
            by_cases q0:b0 < 128
            ·have q0i:(b0:Int) < 128:=by omega
             go_wp2_with fail
             have NA:=Qaa (Qa9 3 2 (K ⟨b,o,Z⟩) c' all w4 (by rw [HAL.out]; omega) (HAR.out.below HB4.out))
             rw [HAL.out] at NA
             refine NA.out.mono ?_
             rintro e w5 ⟨a9,c9,rfl,ho5,hb5⟩
             rw [← HAL.out] at ho5
             have HS5:=Qaa (HZ4.out.later ((Q w4.heap.size w4).trans (hb5.mono (Q w4.heap.size w4).size)))
             have HO5:=Qaa (Qan ho5 (Nat.le_trans HZ4.out.sz (Q w4.heap.size w4).size))
             have HRN:=Qaa (show Qbv bs=.inl (3,2,all) from by rw [HRUN.out,HAP.out,if_pos q0]; rfl)
             clear ho5 hb5
             obtain ⟨q0,qf0⟩:=Qag HS5.out.z2 0
             obtain ⟨q1,qf1⟩:=Qag HS5.out.z2 1
             obtain ⟨q2,qf2⟩:=Qag HS5.out.z2 2
             obtain ⟨q3,qf3⟩:=Qag HS5.out.z2 3
             obtain ⟨q4,qf4⟩:=Qag HS5.out.z2 4
             obtain ⟨q5,qf5⟩:=Qag HS5.out.z2 5
             obtain ⟨q6,qf6⟩:=Qag HS5.out.z2 6
             obtain ⟨s0,sf0⟩:=Qag HS5.out.z3 0
             obtain ⟨s1,sf1⟩:=Qag HS5.out.z3 1
             obtain ⟨s2,sf2⟩:=Qag HS5.out.z3 2
             simp only [X,Y,U] at q0 q1 q2 q3 q4 q5 q6 s0 s1 s2
             have hsz5:w.heap.size < w5.heap.size:=by have:=HS5.out.sz; omega
             have hsz6:w.heap.size+1 < w5.heap.size:=by have:=HS5.out.sz; omega
             go_wp2_with fail
             rw [Qez HS5.out.z2]
             refine bodyPost_ret (v:=.tuple #[.agg #[J V 0,I Z 0 0,J .u32 0,J V 0,J V 0,I Z 0 0,I Z 0 0],.agg #[J V 3,J V 2,I a9 (hh+sz) c9]]) (by simp [results,Tryz.results27,go_sem,q0,q1,q2,q3,q4,q5,q6,s0,s1,s2]) rfl ?_
             exact Qev HRN.out HO5.out HS5.out.bel _ _ _ (HAL.out)
            ·have q0i:decide ((b0:Int) < 128)=false:=decide_eq_false (by omega)
             by_cases q1:b0 / 64 % 2=0
             ·have q1i:(b0:Int) / 64 % 2=0:=by omega
              have HD5:=Qaa (HD3.out.next HKS.out HST4.out (Qae.refl _ _) HBX4.out HRA.out (by rw [HRUN.out,HAP.out,if_neg q0,if_pos q1]; rfl) (by rw [HRL.out]; omega) (by rw [HRL.out]; omega))
              go_wp2_with fail
              exact ⟨⟨rest.drop (hh+sz),ra,c' - (hh+sz),x,b1 :: seen,by rw [HRL.out],by rw [HRL.out]; omega,HD5⟩,by simp [sliceLen]; omega⟩
             ·have q1i:(b0:Int) / 64 % 2=1:=by omega
              by_cases q2:255 < sz
              ·have q2i:(255:Int) < (sz:Int):=by omega
               go_wp2_with fail
               have NA:=Qaa (Qa9 3 9 (K ⟨b,o,Z⟩) c' all w4 (by rw [HAL.out]; omega) (HAR.out.below HB4.out))
               rw [HAL.out] at NA
               refine NA.out.mono ?_
               rintro e w5 ⟨a9,c9,rfl,ho5,hb5⟩
               rw [← HAL.out] at ho5
               have HS5:=Qaa (HZ4.out.later ((Q w4.heap.size w4).trans (hb5.mono (Q w4.heap.size w4).size)))
               have HO5:=Qaa (Qan ho5 (Nat.le_trans HZ4.out.sz (Q w4.heap.size w4).size))
               have HRN:=Qaa (show Qbv bs=.inl (3,9,all) from by rw [HRUN.out,HAP.out,if_neg q0,if_neg q1,if_pos q2]; rfl)
               clear ho5 hb5
               obtain ⟨q0,qf0⟩:=Qag HS5.out.z2 0
               obtain ⟨q1,qf1⟩:=Qag HS5.out.z2 1
               obtain ⟨q2,qf2⟩:=Qag HS5.out.z2 2
               obtain ⟨q3,qf3⟩:=Qag HS5.out.z2 3
               obtain ⟨q4,qf4⟩:=Qag HS5.out.z2 4
               obtain ⟨q5,qf5⟩:=Qag HS5.out.z2 5
               obtain ⟨q6,qf6⟩:=Qag HS5.out.z2 6
               obtain ⟨s0,sf0⟩:=Qag HS5.out.z3 0
               obtain ⟨s1,sf1⟩:=Qag HS5.out.z3 1
               obtain ⟨s2,sf2⟩:=Qag HS5.out.z3 2
               simp only [X,Y,U] at q0 q1 q2 q3 q4 q5 q6 s0 s1 s2
               have hsz5:w.heap.size < w5.heap.size:=by have:=HS5.out.sz; omega
               have hsz6:w.heap.size+1 < w5.heap.size:=by have:=HS5.out.sz; omega
               go_wp2_with fail
               rw [Qez HS5.out.z2]
               refine bodyPost_ret (v:=.tuple #[.agg #[J V 0,I Z 0 0,J .u32 0,J V 0,J V 0,I Z 0 0,I Z 0 0],.agg #[J V 3,J V 9,I a9 (hh+sz) c9]]) (by simp [results,Tryz.results27,go_sem,q0,q1,q2,q3,q4,q5,q6,s0,s1,s2]) rfl ?_
               exact Qev HRN.out HO5.out HS5.out.bel _ _ _ (HAL.out)
              ·have q2i:decide ((255:Int) < (sz:Int))=false:=decide_eq_false (by omega)
               have HD5:=Qaa (HD3.out.next HKS.out HST4.out (Qae.refl _ _) HBX4.out HRA.out (by rw [HRUN.out,HAP.out,if_neg q0,if_neg q1,if_neg q2,if_neg (by have:=T0.out; omega)]; rfl) (by rw [HRL.out]; omega) (by rw [HRL.out]; omega))
               go_wp2_with fail
               exact ⟨⟨rest.drop (hh+sz),ra,c' - (hh+sz),x,b1 :: seen,by rw [HRL.out],by rw [HRL.out]; omega,HD5⟩,by simp [sliceLen]; omega⟩
           ·have t1:(1:Int)≤(b1:Int):=by omega
            have t8:decide ((b1:Int)≤8)=false:=decide_eq_false (by omega)
            have t9:(8:Int) < (b1:Int):=by omega
            by_cases q0:b0 < 128
            ·have q0i:(b0:Int) < 128:=by omega
             go_wp2_with fail
             have NA:=Qaa (Qa9 3 2 (K ⟨b,o,Z⟩) c' all w4 (by rw [HAL.out]; omega) (HAR.out.below HB4.out))
             rw [HAL.out] at NA
             refine NA.out.mono ?_
             rintro e w5 ⟨a9,c9,rfl,ho5,hb5⟩
             rw [← HAL.out] at ho5
             have HS5:=Qaa (HZ4.out.later ((Q w4.heap.size w4).trans (hb5.mono (Q w4.heap.size w4).size)))
             have HO5:=Qaa (Qan ho5 (Nat.le_trans HZ4.out.sz (Q w4.heap.size w4).size))
             have HRN:=Qaa (show Qbv bs=.inl (3,2,all) from by rw [HRUN.out,HAP.out,if_pos q0]; rfl)
             clear ho5 hb5
             obtain ⟨q0,qf0⟩:=Qag HS5.out.z2 0
             obtain ⟨q1,qf1⟩:=Qag HS5.out.z2 1
             obtain ⟨q2,qf2⟩:=Qag HS5.out.z2 2
             obtain ⟨q3,qf3⟩:=Qag HS5.out.z2 3
             obtain ⟨q4,qf4⟩:=Qag HS5.out.z2 4
             obtain ⟨q5,qf5⟩:=Qag HS5.out.z2 5
             obtain ⟨q6,qf6⟩:=Qag HS5.out.z2 6
             obtain ⟨s0,sf0⟩:=Qag HS5.out.z3 0
             obtain ⟨s1,sf1⟩:=Qag HS5.out.z3 1
             obtain ⟨s2,sf2⟩:=Qag HS5.out.z3 2
             simp only [X,Y,U] at q0 q1 q2 q3 q4 q5 q6 s0 s1 s2
             have hsz5:w.heap.size < w5.heap.size:=by have:=HS5.out.sz; omega
             have hsz6:w.heap.size+1 < w5.heap.size:=by have:=HS5.out.sz; omega
             go_wp2_with fail
             rw [Qez HS5.out.z2]
             refine bodyPost_ret (v:=.tuple #[.agg #[J V 0,I Z 0 0,J .u32 0,J V 0,J V 0,I Z 0 0,I Z 0 0],.agg #[J V 3,J V 2,I a9 (hh+sz) c9]]) (by simp [results,Tryz.results27,go_sem,q0,q1,q2,q3,q4,q5,q6,s0,s1,s2]) rfl ?_
             exact Qev HRN.out HO5.out HS5.out.bel _ _ _ (HAL.out)
            ·have q0i:decide ((b0:Int) < 128)=false:=decide_eq_false (by omega)
             by_cases q1:b0 / 64 % 2=0
             ·have q1i:(b0:Int) / 64 % 2=0:=by omega
              have HD5:=Qaa (HD3.out.next HKS.out HST4.out (Qae.refl _ _) HBX4.out HRA.out (by rw [HRUN.out,HAP.out,if_neg q0,if_pos q1]; rfl) (by rw [HRL.out]; omega) (by rw [HRL.out]; omega))
              go_wp2_with fail
              exact ⟨⟨rest.drop (hh+sz),ra,c' - (hh+sz),x,b1 :: seen,by rw [HRL.out],by rw [HRL.out]; omega,HD5⟩,by simp [sliceLen]; omega⟩
             ·have q1i:(b0:Int) / 64 % 2=1:=by omega
              by_cases q2:255 < sz
              ·have q2i:(255:Int) < (sz:Int):=by omega
               go_wp2_with fail
               have NA:=Qaa (Qa9 3 9 (K ⟨b,o,Z⟩) c' all w4 (by rw [HAL.out]; omega) (HAR.out.below HB4.out))
               rw [HAL.out] at NA
               refine NA.out.mono ?_
               rintro e w5 ⟨a9,c9,rfl,ho5,hb5⟩
               rw [← HAL.out] at ho5
               have HS5:=Qaa (HZ4.out.later ((Q w4.heap.size w4).trans (hb5.mono (Q w4.heap.size w4).size)))
               have HO5:=Qaa (Qan ho5 (Nat.le_trans HZ4.out.sz (Q w4.heap.size w4).size))
               have HRN:=Qaa (show Qbv bs=.inl (3,9,all) from by rw [HRUN.out,HAP.out,if_neg q0,if_neg q1,if_pos q2]; rfl)
               clear ho5 hb5
               obtain ⟨q0,qf0⟩:=Qag HS5.out.z2 0
               obtain ⟨q1,qf1⟩:=Qag HS5.out.z2 1
               obtain ⟨q2,qf2⟩:=Qag HS5.out.z2 2
               obtain ⟨q3,qf3⟩:=Qag HS5.out.z2 3
               obtain ⟨q4,qf4⟩:=Qag HS5.out.z2 4
               obtain ⟨q5,qf5⟩:=Qag HS5.out.z2 5
               obtain ⟨q6,qf6⟩:=Qag HS5.out.z2 6
               obtain ⟨s0,sf0⟩:=Qag HS5.out.z3 0
               obtain ⟨s1,sf1⟩:=Qag HS5.out.z3 1
               obtain ⟨s2,sf2⟩:=Qag HS5.out.z3 2
               simp only [X,Y,U] at q0 q1 q2 q3 q4 q5 q6 s0 s1 s2
               have hsz5:w.heap.size < w5.heap.size:=by have:=HS5.out.sz; omega
               have hsz6:w.heap.size+1 < w5.heap.size:=by have:=HS5.out.sz; omega
               go_wp2_with fail
               rw [Qez HS5.out.z2]
               refine bodyPost_ret (v:=.tuple #[.agg #[J V 0,I Z 0 0,J .u32 0,J V 0,J V 0,I Z 0 0,I Z 0 0],.agg #[J V 3,J V 9,I a9 (hh+sz) c9]]) (by simp [results,Tryz.results27,go_sem,q0,q1,q2,q3,q4,q5,q6,s0,s1,s2]) rfl ?_
               exact Qev HRN.out HO5.out HS5.out.bel _ _ _ (HAL.out)
              ·have q2i:decide ((255:Int) < (sz:Int))=false:=decide_eq_false (by omega)
               have RX:=Qaa (Qpv (w.heap.size+1+1) (w.heap.size+1+1+1+1) x 224 (b1:Int) ia sz (c' - hh) dd w4 HDL.out HBX4.out hs4 (HIR.out.below HB4.out) (by omega) (by omega))
               go_wp2_with fail
               refine RX.out.mono ?_
               rintro e w5 ⟨rfl,hb5,hk5⟩
               have HD5:=Qaa (HD3.out.next HKS.out HST4.out (hk5.mono (fun k _ e=>.inl e)) hb5 HRA.out (by rw [HRUN.out,HAP.out,if_neg q0,if_neg q1,if_neg q2,if_pos t0]; rfl) (by rw [HRL.out]; simp only [Qjh]; omega) (by rw [HRL.out]; show 4 * x.comms.length+_≤_; omega))
               clear hb5 hk5
               go_wp2_with fail
               exact ⟨⟨rest.drop (hh+sz),ra,c' - (hh+sz),_,b1 :: seen,by rw [HRL.out],by rw [HRL.out]; omega,HD5⟩,by simp [sliceLen]; omega⟩
  ·have hr00:rest=[]:=List.eq_nil_of_length_eq_zero (by omega)
   subst hr00
   have HF:=Qaa (HD.out.run.trans (Qgp x seen))
   simp only [List.length_nil]
   clear hr0 hrl5
   obtain ⟨w7,hw7⟩:∃ w7:World,w7=wr:=⟨wr,rfl⟩
   subst hw7
   go_wp2_with fail
   go_loopw [13] (fun v wq=>(v=J V 1∨(v=J V 2∧1∈seen)∨(v=J V 3∧1∈seen∧2∈seen)∨(v=J V 4∧1∈seen∧2∈seen∧3∈seen))∧wq=w7) (fun v _=>Jbs v)
   case atStart=>exact ⟨.inl rfl,rfl⟩
   case round =>
    obtain ⟨hv,ew⟩:=hrel
    subst ew
    rcases hv with rfl | ⟨rfl,h1⟩ | ⟨rfl,h1,h2⟩ | ⟨rfl,h1,h2,h3⟩
    ·obtain ⟨cy,fy⟩:=HD.out.stood 1 (by omega)
     by_cases hs:1∈seen
     ·rw [decide_eq_true hs] at cy
      go_wp2_with fail
      exact ⟨⟨.inr (.inl ⟨rfl,hs⟩),trivial⟩,by simp [Jbs]⟩
     ·rw [decide_eq_false hs] at cy
      have HBn:Hid (Below wr.heap.size wr (wr.alloc (D #[J .u8 1] 5))):=(Q _ _).alloc (E _) _
      have HRN0:Hid (Qbv bs=.inl (3,3,[1])):=by show _=_; rw [HF.out]; unfold Qps; rw [if_pos hs]
      go_wp2_with fail
      refine (Qa9 3 3 (K ⟨wr.heap.size,0,Z⟩) 1 ([1]) _ (by simp) (Qo1 wr 1 (by omega))).mono ?_
      rintro e w5 ⟨a9,c9,rfl,ho5,hb5⟩
      have HS5:=Qaa (HD.out.later ((HBn.out).trans (hb5.mono (HBn.out).size)))
      have HO5:=Qaa (Qan ho5 (Nat.le_trans HD.out.sz (HBn.out).size))
      have HRN:=Qaa (HRN0.out)
      clear ho5 hb5
      obtain ⟨q0,qf0⟩:=Qag HS5.out.z2 0
      obtain ⟨q1,qf1⟩:=Qag HS5.out.z2 1
      obtain ⟨q2,qf2⟩:=Qag HS5.out.z2 2
      obtain ⟨q3,qf3⟩:=Qag HS5.out.z2 3
      obtain ⟨q4,qf4⟩:=Qag HS5.out.z2 4
      obtain ⟨q5,qf5⟩:=Qag HS5.out.z2 5
      obtain ⟨q6,qf6⟩:=Qag HS5.out.z2 6
      obtain ⟨s0,sf0⟩:=Qag HS5.out.z3 0
      obtain ⟨s1,sf1⟩:=Qag HS5.out.z3 1
      obtain ⟨s2,sf2⟩:=Qag HS5.out.z3 2
      simp only [X,Y,U] at q0 q1 q2 q3 q4 q5 q6 s0 s1 s2
      have hsz5:w.heap.size < w5.heap.size:=by have:=HS5.out.sz; omega
      have hsz6:w.heap.size+1 < w5.heap.size:=by have:=HS5.out.sz; omega
      go_wp2_with fail
      rw [Qez HS5.out.z2]
      refine bodyPost_ret (v:=.tuple #[.agg #[J V 0,I Z 0 0,J .u32 0,J V 0,J V 0,I Z 0 0,I Z 0 0],.agg #[J V 3,J V 3,I a9 1 c9]]) (by simp [results,Tryz.results27,go_sem,q0,q1,q2,q3,q4,q5,q6,s0,s1,s2]) rfl ?_
      exact Qev HRN.out HO5.out HS5.out.bel _ _ _ (rfl)
    ·obtain ⟨cy,fy⟩:=HD.out.stood 2 (by omega)
     by_cases hs:2∈seen
     ·rw [decide_eq_true hs] at cy
      go_wp2_with fail
      exact ⟨⟨.inr (.inr (.inl ⟨rfl,h1,hs⟩)),trivial⟩,by simp [Jbs]⟩
     ·rw [decide_eq_false hs] at cy
      have HBn:Hid (Below wr.heap.size wr (wr.alloc (D #[J .u8 2] 5))):=(Q _ _).alloc (E _) _
      have HRN0:Hid (Qbv bs=.inl (3,3,[2])):=by show _=_; rw [HF.out]; unfold Qps; rw [if_neg (fun h9=>h9 h1),if_pos hs]
      go_wp2_with fail
      refine (Qa9 3 3 (K ⟨wr.heap.size,0,Z⟩) 1 ([2]) _ (by simp) (Qo1 wr 2 (by omega))).mono ?_
      rintro e w5 ⟨a9,c9,rfl,ho5,hb5⟩
      have HS5:=Qaa (HD.out.later ((HBn.out).trans (hb5.mono (HBn.out).size)))
      have HO5:=Qaa (Qan ho5 (Nat.le_trans HD.out.sz (HBn.out).size))
      have HRN:=Qaa (HRN0.out)
      clear ho5 hb5
      obtain ⟨q0,qf0⟩:=Qag HS5.out.z2 0
      obtain ⟨q1,qf1⟩:=Qag HS5.out.z2 1
      obtain ⟨q2,qf2⟩:=Qag HS5.out.z2 2
      obtain ⟨q3,qf3⟩:=Qag HS5.out.z2 3
      obtain ⟨q4,qf4⟩:=Qag HS5.out.z2 4
      obtain ⟨q5,qf5⟩:=Qag HS5.out.z2 5
      obtain ⟨q6,qf6⟩:=Qag HS5.out.z2 6
      obtain ⟨s0,sf0⟩:=Qag HS5.out.z3 0
      obtain ⟨s1,sf1⟩:=Qag HS5.out.z3 1
      obtain ⟨s2,sf2⟩:=Qag HS5.out.z3 2
      simp only [X,Y,U] at q0 q1 q2 q3 q4 q5 q6 s0 s1 s2
      have hsz5:w.heap.size < w5.heap.size:=by have:=HS5.out.sz; omega
      have hsz6:w.heap.size+1 < w5.heap.size:=by have:=HS5.out.sz; omega
      go_wp2_with fail
      rw [Qez HS5.out.z2]
      refine bodyPost_ret (v:=.tuple #[.agg #[J V 0,I Z 0 0,J .u32 0,J V 0,J V 0,I Z 0 0,I Z 0 0],.agg #[J V 3,J V 3,I a9 1 c9]]) (by simp [results,Tryz.results27,go_sem,q0,q1,q2,q3,q4,q5,q6,s0,s1,s2]) rfl ?_
      exact Qev HRN.out HO5.out HS5.out.bel _ _ _ (rfl)
    ·obtain ⟨cy,fy⟩:=HD.out.stood 3 (by omega)
     by_cases hs:3∈seen
     ·rw [decide_eq_true hs] at cy
      go_wp2_with fail
      exact ⟨⟨.inr (.inr (.inr ⟨rfl,h1,h2,hs⟩)),trivial⟩,by simp [Jbs]⟩
     ·rw [decide_eq_false hs] at cy
      have HBn:Hid (Below wr.heap.size wr (wr.alloc (D #[J .u8 3] 5))):=(Q _ _).alloc (E _) _
      have HRN0:Hid (Qbv bs=.inl (3,3,[3])):=by show _=_; rw [HF.out]; unfold Qps; rw [if_neg (fun h9=>h9 h1),if_neg (fun h9=>h9 h2),if_pos hs]
      go_wp2_with fail
      refine (Qa9 3 3 (K ⟨wr.heap.size,0,Z⟩) 1 ([3]) _ (by simp) (Qo1 wr 3 (by omega))).mono ?_
      rintro e w5 ⟨a9,c9,rfl,ho5,hb5⟩
      have HS5:=Qaa (HD.out.later ((HBn.out).trans (hb5.mono (HBn.out).size)))
      have HO5:=Qaa (Qan ho5 (Nat.le_trans HD.out.sz (HBn.out).size))
      have HRN:=Qaa (HRN0.out)
      clear ho5 hb5
      obtain ⟨q0,qf0⟩:=Qag HS5.out.z2 0
      obtain ⟨q1,qf1⟩:=Qag HS5.out.z2 1
      obtain ⟨q2,qf2⟩:=Qag HS5.out.z2 2
      obtain ⟨q3,qf3⟩:=Qag HS5.out.z2 3
      obtain ⟨q4,qf4⟩:=Qag HS5.out.z2 4
      obtain ⟨q5,qf5⟩:=Qag HS5.out.z2 5
      obtain ⟨q6,qf6⟩:=Qag HS5.out.z2 6
      obtain ⟨s0,sf0⟩:=Qag HS5.out.z3 0
      obtain ⟨s1,sf1⟩:=Qag HS5.out.z3 1
      obtain ⟨s2,sf2⟩:=Qag HS5.out.z3 2
      simp only [X,Y,U] at q0 q1 q2 q3 q4 q5 q6 s0 s1 s2
      have hsz5:w.heap.size < w5.heap.size:=by have:=HS5.out.sz; omega
      have hsz6:w.heap.size+1 < w5.heap.size:=by have:=HS5.out.sz; omega
      go_wp2_with fail
      rw [Qez HS5.out.z2]
      refine bodyPost_ret (v:=.tuple #[.agg #[J V 0,I Z 0 0,J .u32 0,J V 0,J V 0,I Z 0 0,I Z 0 0],.agg #[J V 3,J V 3,I a9 1 c9]]) (by simp [results,Tryz.results27,go_sem,q0,q1,q2,q3,q4,q5,q6,s0,s1,s2]) rfl ?_
      exact Qev HRN.out HO5.out HS5.out.bel _ _ _ (rfl)
    ·have HRN0:Hid (Qbv bs=.inr x):=by show _=_; rw [HF.out]; unfold Qps; rw [if_neg (fun h9=>h9 h1),if_neg (fun h9=>h9 h2),if_neg (fun h9=>h9 h3)]
     obtain ⟨b0,b1,b2,b3,b4,b5,b6,bf,blt⟩:=HD.out.box
     obtain ⟨p1,k1,b1,o1⟩:=b1
     obtain ⟨p5,k5,b5,o5⟩:=b5
     obtain ⟨p6,k6,b6,o6⟩:=b6
     have O1:=Qaa o1
     have O5:=Qaa o5
     have O6:=Qaa o6
     have bf0:=bf 0
     clear o1 o5 o6
     obtain ⟨q0,qf0⟩:=Qag HD.out.z2 0
     obtain ⟨q1,qf1⟩:=Qag HD.out.z2 1
     obtain ⟨q2,qf2⟩:=Qag HD.out.z2 2
     obtain ⟨q3,qf3⟩:=Qag HD.out.z2 3
     obtain ⟨q4,qf4⟩:=Qag HD.out.z2 4
     obtain ⟨q5,qf5⟩:=Qag HD.out.z2 5
     obtain ⟨q6,qf6⟩:=Qag HD.out.z2 6
     obtain ⟨s0,sf0⟩:=Qag HD.out.z3 0
     obtain ⟨s1,sf1⟩:=Qag HD.out.z3 1
     obtain ⟨s2,sf2⟩:=Qag HD.out.z3 2
     simp only [X,Y,U] at q0 q1 q2 q3 q4 q5 q6 s0 s1 s2
     have hsz5:w.heap.size < wr.heap.size:=by have:=HD.out.sz; omega
     have hsz6:w.heap.size+1 < wr.heap.size:=by have:=HD.out.sz; omega
     go_wp2_with fail
     refine bodyPost_ret (v:=.tuple #[.agg #[J V x.origin,I p1 x.path.length k1,J .u32 (x.next:Int),J V x.med,J V x.pref,I p5 x.comms.length k5,I p6 x.raws.length k6],.agg #[J V 0,J V 0,I Z 0 0]]) (by simp [results,Tryz.results27,go_sem,q0,q1,q2,q3,q4,q5,q6,s0,s1,s2]) rfl ?_
     have KP:Qae (fun k=>k=w.heap.size∨k=w.heap.size+1) wr ((((((((((wr.setCell ⟨w.heap.size,0,Z⟩ (J V x.origin)).setCell ⟨w.heap.size,1,Z⟩ (I p1 x.path.length k1)).setCell ⟨w.heap.size,2,Z⟩ (J .u32 (x.next:Int))).setCell ⟨w.heap.size,3,Z⟩ (J V x.med)).setCell ⟨w.heap.size,4,Z⟩ (J V x.pref)).setCell ⟨w.heap.size,5,Z⟩ (I p5 x.comms.length k5)).setCell ⟨w.heap.size,6,Z⟩ (I p6 x.raws.length k6)).setCell ⟨w.heap.size+1,0,Z⟩ (J V 0)).setCell ⟨w.heap.size+1,1,Z⟩ (J V 0)).setCell ⟨w.heap.size+1,2,Z⟩ (I Z 0 0)) :=
      ((((((((((Qae.refl _ _).setCell _ _ _ (.inl (.inl rfl))).setCell _ _ _ (.inl (.inl rfl))).setCell _ _ _ (.inl (.inl rfl))).setCell _ _ _ (.inl (.inl rfl))).setCell _ _ _ (.inl (.inl rfl))).setCell _ _ _ (.inl (.inl rfl))).setCell _ _ _ (.inl (.inl rfl))).setCell _ _ _ (.inl (.inr rfl))).setCell _ _ _ (.inl (.inr rfl))).setCell _ _ _ (.inl (.inr rfl))
     exact Qy7 HRN0.out KP O1.out O5.out O6.out HD.out.bel
