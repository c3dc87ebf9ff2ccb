import Derived.Test.YtdojlejehjbliaaGreatDoorPA35
namespace Go.Proofs.YtdojlejehjbliaaGreatDoor
set_option maxHeartbeats 8000000
open _root_.Go.Value renaming slice → I,int → J
open _root_.Go.IntKind renaming i64 → V
open _root_.Option renaming none → Z,some → Y
open _root_.Nat renaming le_refl → Q
open _root_.Go.Proofs.Tryz renaming prog → U
open _root_.Go.World renaming block_lt_of_cell? → K
open _root_.Go.Ending renaming returned → E
open Go.RowKit
set_option maxRecDepth 100000
def alvB:List Nat:=ff16++[0,19,4]
theorem alv_len:alvB.length=19:=rfl
theorem alv_head:Qa6 alvB=(19,0,0,[]):=by decide
def RAl (C:Array Value)(k q:Int)(_:Value)(_:Nat)(_:World):Prop:=C=Qbt 4 0 0 (I Z 0 0)∧k=0∧q=0
theorem Qrx (S g o c:Nat)(s:Int)(d:Value)(w:World)(h:Qc6 w S (I (Y ⟨g,o,Z⟩) 19 c) 0 s d)(hcap:19≤c)(hb:BRd w (Y ⟨g,o,Z⟩) alvB)(hS:Qdb w) :
  Calls U 14 #[.pointer (Y ⟨S,0,Z⟩)] w fun e w'=>∃ v,e=E (.tuple #[.agg (Qbt 4 0 0 (I Z 0 0)),.agg #[J V 0,J V 0,v],.bool true])∧Hid (∃ d',Qc6 w' S (I Z 0 0) 0 0 d')∧Hid (Qae (fun x=>x=S) w w')∧∃ va vn vc,v=I va vn vc:=by
 refine (Qk1 (fun C k q v _ B W=>RAl C k q v B W∧∃ va vn vc,v=I va vn vc) (fun C k q v _ B W1 W2 F _ _ h=>h) S g o 19 c 19 alvB s d w h rfl (by omega) hcap hb hS alv_head (by omega) (Q _) (fun W hW=>?_)).mono ?_
 ·refine (Qnp g o c alvB W alv_len hcap (hb.below hW) (hS.below hW) alv_head rfl).mono ?_
  rintro e W' ⟨a9,c9,rfl,hb9⟩
  exact ⟨_,0,0,a9,0,c9,[],rfl,MC.msg 4 0 0 Z 0 0,⟨rfl,by omega,by simp,fun h=>absurd rfl h⟩,⟨⟨rfl,rfl,rfl⟩,_,_,_,rfl⟩,hb9⟩
 ·rintro e w' ⟨C,k,q,v,rfl,⟨nd,⟨B,_,⟨rfl,rfl,rfl⟩,hv⟩,a9,⟨c9,hs⟩,_⟩,hk⟩
  have e9:Qjb g o 19 c 19=I Z 0 0:=by unfold Qjb; rw [if_pos rfl]
  rw [e9] at hs
  exact ⟨v,rfl,⟨_,hs⟩,hk,hv⟩
structure Qx9 (w wq:World) (S B:Nat) (v:Value) (ys:List Nat):Prop where
 st:∃ d,Qc6 wq S v 0 0 d
 own:wq.ownsRow B 5 1 v ys.length (Qal ys)
 bel:Below w.heap.size w wq
 lo:w.heap.size≤S
 hS:S < B
 hB:B≤wq.heap.size
 lt:∀ x∈ys,x < 256
theorem Qx9.below {w wq w':World}{S B:Nat}{v:Value}{ys:List Nat} (h:Qx9 w wq S B v ys) (hb:Below wq.heap.size wq w'):Qx9 w w' S B v ys:=by
 obtain ⟨d,hd⟩:=h.st
 exact ⟨⟨d,hd.below hb⟩,Qaq h.own hb,h.bel.trans (hb.mono h.bel.size),h.lo,h.hS,Nat.le_trans h.hB hb.size,h.lt⟩
theorem Qxm {w wq w':World}(hb:Below w.heap.size w wq)(hw:Below (wq.alloc (.cells #[I Z 0 0,J V 0,J V 0,I Z 0 0] 72)).heap.size (wq.alloc (.cells #[I Z 0 0,J V 0,J V 0,I Z 0 0] 72)) w'):Qx9 w w' wq.heap.size w'.heap.size (I Z 0 0) []:=by
 have hz:=hw.size
 simp at hz
 exact ⟨⟨_,(Qtc wq).below hw⟩,Qbm _ _ _ _,(hb.alloc hb.size _).trans (hw.mono (by have:=hb.size; simp; omega)),hb.size,by omega,Q _,by simp⟩
theorem Qx9.read {w wq:World}{S B:Nat}{v:Value}{ys:List Nat} (h:Qx9 w wq S B v ys) (hl:ys.length≤100000):∃ a c,v=I a ys.length c∧ys.length≤c∧BRd wq a ys:=Qic h.own (by omega) h.lt
theorem Qnj {w wq:World}{S B n:Nat}{v:Value}{ys zs:List Nat} (a:Option Addr) (c:Nat) (h:Qx9 w wq S B v ys) (hl:ys.length+zs.length≤100000) (hz:BRd wq a zs) (hn:zs.length=n) :
  Calls U 13 #[.pointer (Y ⟨S,0,Z⟩),I a n c] wq fun e w'=>e=E (.tuple #[])∧Hid (∃ v',Qx9 w w' S B v' (ys++zs))∧Hid (Qae (fun b=>b=S∨v.ownBlock=Y b) wq w'):=by
 subst hn
 obtain ⟨d,hd⟩:=h.st
 refine (Qv2 wq S B v ys zs a c 0 0 d hd h.own h.hB (fun e=>by have:=(Qb1 h.own S e).1; have:=h.hS; omega) hl hz).mono ?_
 rintro e w' ⟨rfl,v',hs,ho,hne,hk⟩
 have hk2:Qae (fun b=>b=S∨B≤b) wq w':=hk.mono fun b _ hb=>by
  rcases hb with rfl | hb
  ·exact .inl rfl
  ·exact .inr (Qb1 h.own b hb).1
 refine ⟨rfl,⟨v',⟨d,hs⟩,ho,h.bel.trans (hk2.below _ h.bel.size (fun b hb=>by have:=h.lo; have:=h.hS; omega)),h.lo,h.hS,Nat.le_trans h.hB hk2.size,fun x hx=>?_⟩,hk⟩
 rcases List.mem_append.1 hx with hx | hx
 ·exact h.lt x hx
 ·exact hz.2 x hx
theorem Qxh {w w':World}{F:Nat→Prop}{a:Option Addr}{bs:List Nat} (h:BRd w a bs) (hk:Qae F w w') (hF:∀ b o,a=Y ⟨b,o,Z⟩→¬ F b):BRd w' a bs:=by
 refine ⟨⟨h.1.1,fun hp=>?_⟩,h.2⟩
 obtain ⟨b,o,e,hc⟩:=h.1.2 hp
 refine ⟨b,o,e,fun i hi=>?_⟩
 have hz:=K w _ (hc i hi)
 rw [hk.cell ⟨b,o+i,Z⟩ hz (hF b o e)]
 exact hc i hi
section
attribute [local go_sem ↓] Qbe Qba keptM_alloc Qbb
theorem Qiz (w:World)(hS:Qdb w):Calls U 11 #[] w fun e w'=>e=E (.bool true)∧Below w.heap.size w w':=by
 have HS:=Qaa hS
 clear hS
 go_enter Tryz.func11,Tryz.ntmps11
 go_wp2_with fail
 refine (Qqy w).mono ?_
 rintro e w1 ⟨rfl,rfl⟩
 go_wp2_with (refine Qhw 0 _ (J V 4) (.agg (Qbt 4 0 0 (I Z 0 0))) (by rfl) (Qg6 4 _) ?_)
 refine (Qri _).mono ?_
 rintro e w2 ⟨⟨b,o,sp⟩,c,rfl,hc,hsp,hbS0,HR,HB⟩
 simp only at hsp hbS0
 subst hsp
 have HW:=Qaa (Qxm (Below.refl w.heap.size w) HB.out)
 have HR5:Hid (BRd w2 (Y ⟨b,o,Z⟩) (alvB.take 5)):=Qe8 HR.out 5
 have hbz:b < w2.heap.size:=by
  obtain ⟨b',o',e9,hc9⟩:=HR.out.1.2 (by decide)
  cases e9
  exact K w2 _ (hc9 0 (by decide))
 have hbS:Hid (b≠w.heap.size∧b < w2.heap.size):=⟨by simp at hbS0; omega,hbz⟩
 clear hbS0 hbz
 have z5:(5:Nat)≤c:=by omega
 have z5c:¬ c=5:=by omega
 go_wp2_with fail
 refine (Qnj (Y ⟨b,o,Z⟩) c HW.out (by simp [alvB,ff16]) HR5.out (by rfl)).mono ?_
 rintro e w3 ⟨rfl,HW3,HK3⟩
 obtain ⟨v3,hw3⟩:=HW3.out
 obtain ⟨a3,c3,rfl,hc3,hr3⟩:=hw3.read (by simp [alvB,ff16])
 obtain ⟨d3,hs3⟩:=hw3.st
 have e5:([]++alvB.take 5).length=5:=by rfl
 rw [e5] at hs3 hc3
 have HNX:=Qaa (Qnc w.heap.size 5 c3 0 a3 ([]++alvB.take 5) 0 d3 w3 hs3 e5 (by omega) hc3 hr3 (HS.out.below hw3.bel) (Qf1 (by rw [e5]; omega)) (.inl rfl))
 have HW3':=Qaa hw3
 clear hs3 hr3 hc3 hw3 HW3
 go_wp2_with fail
 refine HNX.out.mono ?_
 rintro e w4 ⟨rfl,hb4⟩
 have HW4:=Qaa (HW3'.out.below hb4)
 have HB34:=Qaa hb4
 clear hb4 HNX
 obtain ⟨X1,X3,HRA,hX1,HST,HX3,HLB⟩:=Qec w4 MC.zero 0 0 Z 0 0
 have hX1s:=hX1
 obtain ⟨zx3,r0,r1,r2,f0,f1,f2⟩:=HX3.out
 go_wp2_with (first | (refine Qah _ HRA.out ?_; rw [hX1s] at *) | (refine Qam _ _ (.pointer (Y ⟨w4.heap.size,0,Z⟩)) (.agg zM) (by rfl) (by rfl) HST.out ?_))
 generalize ((X3.setCell ⟨w4.heap.size+1,0,Z⟩ (J V 0)).setCell ⟨w4.heap.size+1,1,Z⟩ (J V 0)).setCell ⟨w4.heap.size+1,2,Z⟩ (I Z 0 0)=V1 at *
 have HW5:=Qaa (HW4.out.below HLB.out.bel)
 have HR14:Hid (BRd V1 (Y ⟨b,o+5,Z⟩) (alvB.drop 5)):=by
  have h1:BRd w2 (Y ⟨b,o+5,Z⟩) (alvB.drop 5):=Qds HR.out (by decide)
  have h2:=Qxh h1 HK3.out (fun b' o' e=>by
   cases e
   have:=hbS.out
   rintro (h | h)
   ·omega
   ·cases h)
  exact (h2.below HB34.out).below HLB.out.bel
 clear HRA hX1 hX1s HST HX3 zx3 r0 r1 r2 f0 f1 f2
 refine (Qnj (Y ⟨b,o+5,Z⟩) (c - 5) HW5.out (by simp [alvB,ff16]) HR14.out (by rfl)).mono ?_
 rintro e w6 ⟨rfl,HW6,HK6⟩
 obtain ⟨v6,hw6⟩:=HW6.out
 have e6:([]++alvB.take 5)++alvB.drop 5=alvB:=by rfl
 rw [e6] at hw6
 obtain ⟨a6,c6,rfl,hc6,hr6⟩:=hw6.read (by simp [alvB,ff16])
 rw [alv_len] at hc6
 obtain ⟨g6,o6,rfl,_⟩:=hr6.1.2 (by rw [alv_len]; omega)
 obtain ⟨d6,hs6⟩:=hw6.st
 rw [alv_len] at hs6
 have HNX:=Qaa (Qrx w.heap.size g6 o6 c6 0 d6 w6 hs6 hc6 hr6 (HS.out.below hw6.bel))
 have HB6:=Qaa hw6.bel
 clear hs6 hr6 hc6 hw6 HW6 HK6 HK3 HR14 HW5 HW4 HW3' HLB HB34
 go_wp2_with fail
 refine HNX.out.mono ?_
 rintro e w7 ⟨v7,rfl,HS7,HK7,va,vn,vc,rfl⟩
 obtain ⟨d7,hs7⟩:=HS7.out
 have HB7:Hid (Below w.heap.size w w7):=HB6.out.trans (HK7.out.below _ HB6.out.size (fun x e=>by omega))
 have HS7':=Qaa hs7
 clear hs7 HS7 HNX
 obtain ⟨Y1,Y3,HRA,hX1,HST,HX3,HLC⟩:=Qec w7 (MC.msg 4 0 0 Z 0 0) 0 0 va vn vc
 have hX1s:=hX1
 obtain ⟨zx3,r0,r1,r2,f0,f1,f2⟩:=HX3.out
 have y0:Y3.cell? ⟨w7.heap.size,0,Z⟩=Y (J V 4):=by
  have h9:=Qai HLC.out.bM 0 _ rfl
  simpa [go_sem] using h9
 have zy:w7.heap.size < Y3.heap.size:=by omega
 go_wp2_with (first | (refine Qah _ HRA.out ?_; rw [hX1s] at *) | (refine Qam _ _ (.pointer (Y ⟨w7.heap.size,0,Z⟩)) (.agg (Qbt 4 0 0 (I Z 0 0))) (by rfl) (by rfl) HST.out ?_))
 generalize ((Y3.setCell ⟨w7.heap.size+1,0,Z⟩ (J V 0)).setCell ⟨w7.heap.size+1,1,Z⟩ (J V 0)).setCell ⟨w7.heap.size+1,2,Z⟩ (I va vn vc)=V2 at *
 clear HRA hX1 hX1s HST HX3 zx3 r0 r1 r2 f0 f1 f2 y0 zy
 refine (Qp5 V2 w.heap.size Z 0 0 0 0 d7 (HS7'.out.below HLC.out.bel)).mono ?_
 rintro e w9 ⟨rfl,rfl⟩
 have HB9:Hid (Below w.heap.size w w9):=HB7.out.trans (HLC.out.bel.mono HB7.out.size)
 go_wp2
 go_ret
 exact ⟨rfl,HB9.out⟩
end
theorem Ql0 (c s:Nat)(a:Option Addr)(cap n:Nat)(d:List Nat)(W:World)(X:Nat)(hn:d.length=n)(hl:n≤50000)(h:BRd W a d)(hX:Qc3 W X) :
  Calls U 23 #[J V (c:Int),J V (s:Int),I a n cap] W fun e w'=>∃ a9 c9,e=E (.agg #[J V (c:Int),J V (s:Int),I a9 n c9])∧Hid (w'.ownsRow W.heap.size 5 1 (I a9 n c9) n (Qal d))∧Hid (Below W.heap.size W w')∧Hid (Qc3 w' X):=by
 subst hn
 refine (Qa9 c s a cap d W (by omega) h).mono ?_
 rintro e w' ⟨a9,c9,rfl,ho,hb⟩
 exact ⟨a9,c9,rfl,ho,hb,hX.below hb hX.1⟩
theorem Qov (a:Option Addr)(c n:Nat)(w:World)(h:n < 19) :
  Calls U 15 #[I a n c] w fun e w'=>Qu0 w w' e (0,0,0,[])∧Below w.heap.size w w':=by
 go_enter Tryz.func15,Tryz.ntmps15
 go_wp2_with fail
 refine bodyPost_ret (v:=.tuple #[J V 0,.agg #[J V 0,J V 0,I Z 0 0]]) (by simp [results,Tryz.results15,go_sem]) rfl ⟨⟨_,rfl,Z,0,rfl,Qbm _ _ _ _⟩,?_⟩
 exact (Below.refl _ _).alloc (Q _) _
theorem Qcj {w W:World}{X:Nat}{u0 u1 u2:Value} (h:Below X w W):Below X w (((W.setCell ⟨X,0,Z⟩ u0).setCell ⟨X,1,Z⟩ u1).setCell ⟨X,2,Z⟩ u2) :=
 ((h.setCell (p:=⟨X,0,Z⟩) (Q _) u0).setCell (p:=⟨X,1,Z⟩) (Q _) u1).setCell (p:=⟨X,2,Z⟩) (Q _) u2
theorem Qej {W:World}{B X n:Nat}{v u0 u1 u2:Value}{xs:List Value} (h:W.ownsRow B 5 1 v n xs) (hX:X < B):(((W.setCell ⟨X,0,Z⟩ u0).setCell ⟨X,1,Z⟩ u1).setCell ⟨X,2,Z⟩ u2).ownsRow B 5 1 v n xs :=
 Qac (Qac (Qac h hX 0 u0) hX 1 u1) hX 2 u2
theorem Qra (b o c n:Nat)(bs:List Nat)(w:World)(hn:bs.length=n)(h19:19≤n)(hl:n≤100000)(hcap:n≤c)(h:BRd w (Y ⟨b,o,Z⟩) bs) :
  Calls U 15 #[I (Y ⟨b,o,Z⟩) n c] w fun e w'=>Qu0 w w' e (Qa6 bs)∧Below w.heap.size w w':=by
 obtain ⟨b',o',e9,hc⟩:=h.1.2 (by omega)
 cases e9
 have HC:Hid (∀ i,i < n→w.cell? ⟨b,o+i,Z⟩=Y (J .u8 (bs.getD i 0:Int))):=fun i hi=>hc i (by omega)
 have c16:=HC.out 16 (by omega)
 have c17:=HC.out 17 (by omega)
 have c18:=HC.out 18 (by omega)
 have zb:=K w _ c18
 simp only at zb
 have hlen2:((bs.drop 16).take 2).length=2:=by rw [List.length_take,List.length_drop]; omega
 have hlen1:((bs.drop 18).take 1).length=1:=by rw [List.length_take,List.length_drop]; omega
 obtain ⟨w1,hw1⟩:∃ w1,w1=w.alloc (.cells #[J V 0,J V 0,I Z 0 0] 38):=⟨_,rfl⟩
 have hb1:Below w.heap.size w w1:=by rw [hw1]; exact (Below.refl _ _).alloc (Q _) _
 have hs1:w1.heap.size=w.heap.size+1:=by rw [hw1]; simp
 have hx1:Qc3 w1 w.heap.size:=by rw [hw1]; exact Qc3.made w
 have br2:BRd w (Y ⟨b,o+16,Z⟩) ((bs.drop 16).take 2):=Qcq h 16 2 (by omega)
 have br1:BRd w (Y ⟨b,o+18,Z⟩) ((bs.drop 18).take 1):=Qcq h 18 1 (by omega)
 have hbm:∀ m,Below w.heap.size w (w1.drewN m):=fun m=>Qaj hb1 m
 have hxm:∀ m,Qc3 (w1.drewN m) w.heap.size:=fun m=>hx1.below (B:=w.heap.size+1) ⟨rfl,rfl,rfl,Q _,fun _ _=>rfl⟩ (by omega)
 have HN0:Hid (∀ m,Calls U 23 #[J V 1,J V 1,I Z 0 0] (w1.drewN m) fun e w2=>∃ a9 c9,e=E (.agg #[J V 1,J V 1,I a9 0 c9])∧Hid (w2.ownsRow (w.heap.size+1) 5 1 (I a9 0 c9) 0 (Qal []))∧Hid (Below w.heap.size w w2)∧Hid (Qc3 w2 w.heap.size)):=fun m=>by
  refine (Ql0 1 1 Z 0 0 [] _ w.heap.size rfl (by omega) (Qbf _ _) (hxm m)).mono ?_
  rintro e w2 ⟨a9,c9,rfl,ho,hb3,hx⟩
  have hsz:(w1.drewN m).heap.size=w.heap.size+1:=hs1
  rw [hsz] at ho hb3
  exact ⟨a9,c9,rfl,ho,(hbm m).trans (hb3.out.mono (by omega)),hx⟩
 have HN2:Hid (∀ m,Calls U 23 #[J V 1,J V 2,I (Y ⟨b,o+16,Z⟩) 2 (c - 16)] (w1.drewN m) fun e w2=>∃ a9 c9,e=E (.agg #[J V 1,J V 2,I a9 2 c9])∧Hid (w2.ownsRow (w.heap.size+1) 5 1 (I a9 2 c9) 2 (Qal ((bs.drop 16).take 2)))∧Hid (Below w.heap.size w w2)∧Hid (Qc3 w2 w.heap.size)):=fun m=>by
  refine (Ql0 1 2 (Y ⟨b,o+16,Z⟩) (c - 16) 2 ((bs.drop 16).take 2) _ w.heap.size hlen2 (by omega) (br2.below (hbm m)) (hxm m)).mono ?_
  rintro e w2 ⟨a9,c9,rfl,ho,hb3,hx⟩
  have hsz:(w1.drewN m).heap.size=w.heap.size+1:=hs1
  rw [hsz] at ho hb3
  exact ⟨a9,c9,rfl,ho,(hbm m).trans (hb3.out.mono (by omega)),hx⟩
 have HN3:Hid (∀ m,Calls U 23 #[J V 1,J V 3,I (Y ⟨b,o+18,Z⟩) 1 (c - 18)] (w1.drewN m) fun e w2=>∃ a9 c9,e=E (.agg #[J V 1,J V 3,I a9 1 c9])∧Hid (w2.ownsRow (w.heap.size+1) 5 1 (I a9 1 c9) 1 (Qal ((bs.drop 18).take 1)))∧Hid (Below w.heap.size w w2)∧Hid (Qc3 w2 w.heap.size)):=fun m=>by
  refine (Ql0 1 3 (Y ⟨b,o+18,Z⟩) (c - 18) 1 ((bs.drop 18).take 1) _ w.heap.size hlen1 (by omega) (br1.below (hbm m)) (hxm m)).mono ?_
  rintro e w2 ⟨a9,c9,rfl,ho,hb3,hx⟩
  have hsz:(w1.drewN m).heap.size=w.heap.size+1:=hs1
  rw [hsz] at ho hb3
  exact ⟨a9,c9,rfl,ho,(hbm m).trans (hb3.out.mono (by omega)),hx⟩
 have HCW:Hid (∀ i,i < n→w1.cell? ⟨b,o+i,Z⟩=Y (J .u8 (bs.getD i 0:Int))):=fun i hi=>by
  rw [hb1.cell (p:=⟨b,o+i,Z⟩) zb]; exact HC.out i hi
 have d16:=HCW.out 16 (by omega)
 have d17:=HCW.out 17 (by omega)
 have d18:=HCW.out 18 (by omega)
 have zb1:b < w1.heap.size:=by omega
 have hk:bs.getD 18 0 < 256:=Qau h.2 18
 have hs16:bs.getD 16 0 < 256:=Qau h.2 16
 have hs17:bs.getD 17 0 < 256:=Qau h.2 17
 have HLT:Hid (∀ i,bs.getD i 0 < 256):=fun i=>Qau h.2 i
 have HMk:Hid (∀ k,k < 16→bs.getD k 0≠255→Qa6 bs=(0,1,1,[])):=fun k hk1 hk2=>Qh9 (by omega) (fun e=>hk2 (by
  have:=congrArg (fun l=>l.getD k 0) e
  simp only [List.getD_eq_getElem?_getD] at this ⊢
  rw [List.getElem?_take_of_lt hk1,List.getElem?_replicate,if_pos hk1] at this
  exact this))
 have HM:Hid (∀ P:Prop,(bs.take 16=List.replicate 16 255→P)→(bs.take 16=List.replicate 16 255)→P):=fun P f h=>f h
 have HM2:Hid (bs.take 16=List.replicate 16 255→(256 * bs.getD 16 0+bs.getD 17 0 < 19∨4096 < 256 * bs.getD 16 0+bs.getD 17 0)→Qa6 bs=(0,1,2,(bs.drop 16).take 2)):=fun hm h2=>Qih (by omega) (fun x=>x hm) h2
 have HM3:Hid (bs.take 16=List.replicate 16 255→¬ (256 * bs.getD 16 0+bs.getD 17 0 < 19∨4096 < 256 * bs.getD 16 0+bs.getD 17 0)→(bs.getD 18 0 < 1∨4 < bs.getD 18 0)→Qa6 bs=(0,1,3,(bs.drop 18).take 1)):=fun hm h2 h3=>Qim (by omega) (fun x=>x hm) h2 h3
 have HM4:Hid (bs.take 16=List.replicate 16 255→¬ (256 * bs.getD 16 0+bs.getD 17 0 < 19∨4096 < 256 * bs.getD 16 0+bs.getD 17 0)→¬ (bs.getD 18 0 < 1∨4 < bs.getD 18 0)→(256 * bs.getD 16 0+bs.getD 17 0 < Qdn (bs.getD 18 0)∨Qei (bs.getD 18 0) < 256 * bs.getD 16 0+bs.getD 17 0)→Qa6 bs=(0,1,2,(bs.drop 16).take 2)):=fun hm h2 h3 h4=>Qij (by omega) (fun x=>x hm) h2 h3 h4
 have HM5:Hid (bs.take 16=List.replicate 16 255→¬ (256 * bs.getD 16 0+bs.getD 17 0 < 19∨4096 < 256 * bs.getD 16 0+bs.getD 17 0)→¬ (bs.getD 18 0 < 1∨4 < bs.getD 18 0)→¬ (256 * bs.getD 16 0+bs.getD 17 0 < Qdn (bs.getD 18 0)∨Qei (bs.getD 18 0) < 256 * bs.getD 16 0+bs.getD 17 0)→Qa6 bs=(256 * bs.getD 16 0+bs.getD 17 0,0,0,[])):=fun hm h2 h3 h4=>Qh5 (by omega) (fun x=>x hm) h2 h3 h4
 have HTK:Hid (∀ k,k < 16→bs.getD k 0=255→bs.take k=List.replicate k 255→bs.take (k+1)=List.replicate (k+1) 255):=fun k hk1 hk2 hk3=>by
  have hkl:k < bs.length:=by omega
  rw [List.take_succ_eq_append_getElem hkl,hk3,List.replicate_succ']
  rw [List.getD_eq_getElem?_getD,List.getElem?_eq_getElem hkl] at hk2
  simp at hk2
  rw [hk2]
 have HX1:=Qaa hx1
 have HL1:=Qaa hlen1
 have HL2:=Qaa hlen2
 have HNn:=Qaa hn
 have HB1:=Qaa hb1
 have HS1:=Qaa hs1
 clear hc h hlen1 hlen2 br2 br1 hbm hxm hn HC c16 c17 c18 HM hb1 hx1
 go_enter Tryz.func15,Tryz.ntmps15
 go_wp2_with fail
 rw [← hw1]
 clear hw1
 go_loop [4] (fun i=>∃ k:Nat,k≤16∧i=J V k∧Hid (bs.take k=List.replicate k 255)) (fun i=>16 - (intOf i).toNat)
 case atStart=>exact ⟨0,by omega,rfl,rfl⟩
 case round =>
  obtain ⟨k,hk16,rfl,HT⟩:=hrel
  by_cases hlt:k < 16
  ·have ck:=HCW.out k (by omega)
   have hx:=HLT.out k
   have HTn:=Qaa (HTK.out k hlt)
   have HMn:=Qaa (HMk.out k hlt)
   generalize bs.getD k 0=x at *
   have hk0:(0:Int)≤(k:Int):=Int.natCast_nonneg _
   have hk1:(k:Int) < (n:Int):=by omega
   have hk2:(k:Int) < 16:=by omega
   by_cases h255:x=255
   ·subst h255
    have HT2:=Qaa (HTn.out rfl HT.out)
    clear HTn HMn HT HM2 HM3 HM4 HM5
    go_wp2
    exact ⟨⟨k+1,by omega,by go_num,HT2⟩,by simp [intOf]; omega⟩
   ·have HR:=Qaa (HMn.out h255)
    have hne:((x:Int) != 255)=true:=by simp; omega
    clear HTn HMn HT HM2 HM3 HM4 HM5
    go_wp2_with fail
    refine (HN0.out 0).mono ?_
    rintro e w2 ⟨a9,c9,rfl,HO,HB,HX⟩
    obtain ⟨hz,r0,r1,r2,f0,f1,f2⟩:=HX.out
    go_wp2_with fail
    refine bodyPost_ret (v:=.tuple #[J V 0,.agg #[J V 1,J V 1,I a9 0 c9]]) (by simp [results,Tryz.results15,go_sem,r0,r1,r2]) rfl ⟨?_,Qcj HB.out⟩
    rw [HR.out]
    exact ⟨_,rfl,a9,c9,rfl,Qa0 (Qej HO.out (by omega)) (by omega)⟩
  ·obtain rfl:k=16:=by omega
   have HT16:=HT
   clear HT HTK HMk
   have H2:=Qaa (HM2.out HT16.out)
   have H3:=Qaa (HM3.out HT16.out)
   have H4:=Qaa (HM4.out HT16.out)
   have H5:=Qaa (HM5.out HT16.out)
   clear HM2 HM3 HM4 HM5 HN0 HLT HCW
   generalize bs.getD 16 0=p at *
   generalize bs.getD 17 0=q at *
   generalize bs.getD 18 0=kd at *
   go_wp2_with fail
   go_quiet (fail)
   obtain ⟨sz,hsz⟩:∃ sz,sz=256 * p+q:=⟨_,rfl⟩
   have hszi:(256 * (p:Int)+(q:Int))=(sz:Int):=by omega
   have hszl:sz < 65536:=by omega
   rw [← hsz] at H2 H3 H4 H5
   rw [hszi]
   clear hsz hszi d16 d17 hs16 hs17 d18
   obtain ⟨hz,r0,r1,r2,f0,f1,f2⟩:=HX1.out
   by_cases h2:sz < 19∨4096 < sz
   ·have HR:=Qaa (H2.out h2)
    clear H2 H3 H4 H5
    have h2b:((sz:Int) < 19)∨(¬ ((sz:Int) < 19)∧(4096 < (sz:Int))):=by omega
    clear h2
    rcases h2b with h2 | ⟨h2,h2'⟩
    ·go_wp2_with fail
     refine (HN2.out nq).mono ?_
     rintro e w2 ⟨a9,c9,rfl,HO,HB,HX⟩
     obtain ⟨hz,r0,r1,r2,f0,f1,f2⟩:=HX.out
     go_wp2_with fail
     refine bodyPost_ret (v:=.tuple #[J V 0,.agg #[J V 1,J V 2,I a9 2 c9]]) (by simp [results,Tryz.results15,go_sem,r0,r1,r2]) rfl ⟨?_,Qcj HB.out⟩
     rw [HR.out]
     refine ⟨_,rfl,a9,c9,?_,?_⟩
     ·simp only [HL2.out]; rfl
     ·simp only [HL2.out]; exact Qa0 (Qej HO.out (by omega)) (by omega)
    ·go_wp2_with fail
     refine (HN2.out nq).mono ?_
     rintro e w2 ⟨a9,c9,rfl,HO,HB,HX⟩
     obtain ⟨hz,r0,r1,r2,f0,f1,f2⟩:=HX.out
     go_wp2_with fail
     refine bodyPost_ret (v:=.tuple #[J V 0,.agg #[J V 1,J V 2,I a9 2 c9]]) (by simp [results,Tryz.results15,go_sem,r0,r1,r2]) rfl ⟨?_,Qcj HB.out⟩
     rw [HR.out]
     refine ⟨_,rfl,a9,c9,?_,?_⟩
     ·simp only [HL2.out]; rfl
     ·simp only [HL2.out]; exact Qa0 (Qej HO.out (by omega)) (by omega)
   ·have hn1:¬ ((sz:Int) < 19):=by omega
    have hn2:¬ ((4096:Int) < (sz:Int)):=by omega
    have H3:=Qaa (H3.out h2)
    have H4:=Qaa (H4.out h2)
    have H5:=Qaa (H5.out h2)
    by_cases h3:kd < 1∨4 < kd
    ·have HR:=Qaa (H3.out h3)
     clear H2 H3 H4 H5
     have h3b:((kd:Int) < 1)∨(¬ ((kd:Int) < 1)∧(4 < (kd:Int))):=by omega
     clear h3
     rcases h3b with h3 | ⟨h3,h3'⟩
     ·go_wp2_with fail
      refine (HN3.out nq).mono ?_
      rintro e w2 ⟨a9,c9,rfl,HO,HB,HX⟩
      obtain ⟨hz,r0,r1,r2,f0,f1,f2⟩:=HX.out
      go_wp2_with fail
      refine bodyPost_ret (v:=.tuple #[J V 0,.agg #[J V 1,J V 3,I a9 1 c9]]) (by simp [results,Tryz.results15,go_sem,r0,r1,r2]) rfl ⟨?_,Qcj HB.out⟩
      rw [HR.out]
      refine ⟨_,rfl,a9,c9,?_,?_⟩
      ·simp only [HL1.out]; rfl
      ·simp only [HL1.out]; exact Qa0 (Qej HO.out (by omega)) (by omega)
     ·go_wp2_with fail
      refine (HN3.out nq).mono ?_
      rintro e w2 ⟨a9,c9,rfl,HO,HB,HX⟩
      obtain ⟨hz,r0,r1,r2,f0,f1,f2⟩:=HX.out
      go_wp2_with fail
      refine bodyPost_ret (v:=.tuple #[J V 0,.agg #[J V 1,J V 3,I a9 1 c9]]) (by simp [results,Tryz.results15,go_sem,r0,r1,r2]) rfl ⟨?_,Qcj HB.out⟩
      rw [HR.out]
      refine ⟨_,rfl,a9,c9,?_,?_⟩
      ·simp only [HL1.out]; rfl
      ·simp only [HL1.out]; exact Qa0 (Qej HO.out (by omega)) (by omega)
    have H4:=Qaa (H4.out h3)
    have H5:=Qaa (H5.out h3)
    have hkd:kd=1∨kd=2∨kd=3∨kd=4:=by omega
    clear H2 H3
    rcases hkd with rfl | rfl | rfl | rfl
    ·by_cases h4:sz < 29
     ·have HR:=Qaa (H4.out (.inl h4))
      have h4i:(sz:Int) < 29:=by omega
      clear H4 H5
      go_wp2_with fail
      refine (HN2.out nq).mono ?_
      rintro e w2 ⟨a9,c9,rfl,HO,HB,HX⟩
      obtain ⟨hz,r0,r1,r2,f0,f1,f2⟩:=HX.out
      go_wp2_with fail
      refine bodyPost_ret (v:=.tuple #[J V 0,.agg #[J V 1,J V 2,I a9 2 c9]]) (by simp [results,Tryz.results15,go_sem,r0,r1,r2]) rfl ⟨?_,Qcj HB.out⟩
      rw [HR.out]
      refine ⟨_,rfl,a9,c9,?_,?_⟩
      ·simp only [HL2.out]; rfl
      ·simp only [HL2.out]; exact Qa0 (Qej HO.out (by omega)) (by omega)
     ·have HR:=Qaa (H5.out (by show ¬ (sz < 29∨4096 < sz); omega))
      have h4i:¬ ((sz:Int) < 29):=by omega
      clear H4 H5
      go_wp2_with fail
      refine bodyPost_ret (v:=.tuple #[J V (sz:Int),.agg #[J V 0,J V 0,I Z 0 0]]) (by simp [results,Tryz.results15,go_sem,r0,r1,r2]) rfl ⟨?_,?_⟩
      ·rw [HR.out]; exact ⟨_,rfl,Z,0,rfl,Qbm _ _ _ _⟩
      ·have h9:=Qcj (u0:=J V 0) (u1:=J V 0) (u2:=I Z 0 0) HB1.out
       exact ⟨h9.os,h9.tape,h9.output,h9.size,h9.block⟩
    ·by_cases h4:sz < 23
     ·have HR:=Qaa (H4.out (.inl h4))
      have h4i:(sz:Int) < 23:=by omega
      clear H4 H5
      go_wp2_with fail
      refine (HN2.out nq).mono ?_
      rintro e w2 ⟨a9,c9,rfl,HO,HB,HX⟩
      obtain ⟨hz,r0,r1,r2,f0,f1,f2⟩:=HX.out
      go_wp2_with fail
      refine bodyPost_ret (v:=.tuple #[J V 0,.agg #[J V 1,J V 2,I a9 2 c9]]) (by simp [results,Tryz.results15,go_sem,r0,r1,r2]) rfl ⟨?_,Qcj HB.out⟩
      rw [HR.out]
      refine ⟨_,rfl,a9,c9,?_,?_⟩
      ·simp only [HL2.out]; rfl
      ·simp only [HL2.out]; exact Qa0 (Qej HO.out (by omega)) (by omega)
     ·have HR:=Qaa (H5.out (by show ¬ (sz < 23∨4096 < sz); omega))
      have h4i:¬ ((sz:Int) < 23):=by omega
      clear H4 H5
      go_wp2_with fail
      refine bodyPost_ret (v:=.tuple #[J V (sz:Int),.agg #[J V 0,J V 0,I Z 0 0]]) (by simp [results,Tryz.results15,go_sem,r0,r1,r2]) rfl ⟨?_,?_⟩
      ·rw [HR.out]; exact ⟨_,rfl,Z,0,rfl,Qbm _ _ _ _⟩
      ·have h9:=Qcj (u0:=J V 0) (u1:=J V 0) (u2:=I Z 0 0) HB1.out
       exact ⟨h9.os,h9.tape,h9.output,h9.size,h9.block⟩
    ·by_cases h4:sz < 21
     ·have HR:=Qaa (H4.out (.inl h4))
      have h4i:(sz:Int) < 21:=by omega
      clear H4 H5
      go_wp2_with fail
      refine (HN2.out nq).mono ?_
      rintro e w2 ⟨a9,c9,rfl,HO,HB,HX⟩
      obtain ⟨hz,r0,r1,r2,f0,f1,f2⟩:=HX.out
      go_wp2_with fail
      refine bodyPost_ret (v:=.tuple #[J V 0,.agg #[J V 1,J V 2,I a9 2 c9]]) (by simp [results,Tryz.results15,go_sem,r0,r1,r2]) rfl ⟨?_,Qcj HB.out⟩
      rw [HR.out]
      refine ⟨_,rfl,a9,c9,?_,?_⟩
      ·simp only [HL2.out]; rfl
      ·simp only [HL2.out]; exact Qa0 (Qej HO.out (by omega)) (by omega)
     ·have HR:=Qaa (H5.out (by show ¬ (sz < 21∨4096 < sz); omega))
      have h4i:¬ ((sz:Int) < 21):=by omega
      clear H4 H5
      go_wp2_with fail
      refine bodyPost_ret (v:=.tuple #[J V (sz:Int),.agg #[J V 0,J V 0,I Z 0 0]]) (by simp [results,Tryz.results15,go_sem,r0,r1,r2]) rfl ⟨?_,?_⟩
      ·rw [HR.out]; exact ⟨_,rfl,Z,0,rfl,Qbm _ _ _ _⟩
      ·have h9:=Qcj (u0:=J V 0) (u1:=J V 0) (u2:=I Z 0 0) HB1.out
       exact ⟨h9.os,h9.tape,h9.output,h9.size,h9.block⟩
    ·by_cases h4:sz=19
     ·have HR:=Qaa (H5.out (by show ¬ (sz < 19∨19 < sz); omega))
      clear H4 H5
      subst h4
      go_wp2_with fail
      refine bodyPost_ret (v:=.tuple #[J V 19,.agg #[J V 0,J V 0,I Z 0 0]]) (by simp [results,Tryz.results15,go_sem,r0,r1,r2]) rfl ⟨?_,?_⟩
      ·rw [HR.out]; exact ⟨_,rfl,Z,0,rfl,Qbm _ _ _ _⟩
      ·have h9:=Qcj (u0:=J V 0) (u1:=J V 0) (u2:=I Z 0 0) HB1.out
       exact ⟨h9.os,h9.tape,h9.output,h9.size,h9.block⟩
     ·have HR:=Qaa (H4.out (by show sz < 19∨19 < sz; omega))
      have h4i:((sz:Int) != 19)=true:=by simp; omega
      clear H4 H5
      go_wp2_with fail
      refine (HN2.out nq).mono ?_
      rintro e w2 ⟨a9,c9,rfl,HO,HB,HX⟩
      obtain ⟨hz,r0,r1,r2,f0,f1,f2⟩:=HX.out
      go_wp2_with fail
      refine bodyPost_ret (v:=.tuple #[J V 0,.agg #[J V 1,J V 2,I a9 2 c9]]) (by simp [results,Tryz.results15,go_sem,r0,r1,r2]) rfl ⟨?_,Qcj HB.out⟩
      rw [HR.out]
      refine ⟨_,rfl,a9,c9,?_,?_⟩
      ·simp only [HL2.out]; rfl
      ·simp only [HL2.out]; exact Qa0 (Qej HO.out (by omega)) (by omega)
theorem Qhk (a:Option Addr)(c:Nat)(bs:List Nat)(w:World)(hl:bs.length≤100000)(hcap:bs.length≤c)(h:BRd w a bs) :
  Calls U 15 #[I a bs.length c] w fun e w'=>Qu0 w w' e (Qa6 bs)∧Below w.heap.size w w':=by
 by_cases h1:bs.length < 19
 ·rw [Qf1 h1]; exact Qov a c _ w h1
 ·obtain ⟨b,o,rfl,_⟩:=h.1.2 (by omega)
  exact Qra b o c _ bs w rfl (by omega) hl hcap h
