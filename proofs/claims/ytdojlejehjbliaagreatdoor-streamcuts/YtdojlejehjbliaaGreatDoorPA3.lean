import Derived.Test.YtdojlejehjbliaaGreatDoorPA2
import Derived.Test.YtdojlejehjbliaaGreatDoorCards
import Derived.Test.YtdojlejehjbliaaGreatDoorTie
import Derived.Deep.DeepHandedRow
import Derived.Lib.LaidTab
namespace Go.Proofs.YtdojlejehjbliaaGreatDoor
set_option maxHeartbeats 4000000
open _root_.Go.Value renaming int → I,slice → Z
open _root_.Go.IntKind renaming i64 → J
open _root_.Nat renaming le_refl → V
open _root_.Go.Proofs.Tryz renaming prog → Q
open _root_.Option renaming none → Y,some → E
open _root_.Go.Obj renaming cells → U
open _root_.List renaming getD_eq_getElem?_getD → K,length_take → R
open _root_.Go.Ending renaming returned → D
open _root_.Go.RowKit.Below renaming refl → T
open _root_.Go.World renaming block_lt_of_cell? → L
open Go.RowKit
set_option maxRecDepth 100000
def saidML:List Int:=[0,0,29,4096,23,4096,21,4096,19,19]
def Qdb (w:World):Prop:=∀ k z,saidML[k]?=E z→w.cell? ⟨0,k,Y⟩=E (I J z)
theorem Qdb.pos {w:World}(h:Qdb w):0 < w.heap.size:=by
 have:=L w _ (h 0 0 rfl)
 simpa using this
theorem Qdb.below {w w':World}(h:Qdb w)(hb:Below w.heap.size w w'):Qdb w':=fun k z hk=>by
 rw [hb.cell (p:=⟨0,k,Y⟩) (by exact h.pos)]
 exact h k z hk
theorem Qdb.at {w:World}(h:Qdb w)(k:Nat)(h1:1≤k)(h4:k≤4) :
  w.cell? ⟨0,k * 2,Y⟩=E (I J (Qdn k:Int))∧w.cell? ⟨0,k * 2+1,Y⟩=E (I J (Qei k:Int)):=by
 have hk:k=1∨k=2∨k=3∨k=4:=by omega
 rcases hk with rfl | rfl | rfl | rfl <;> exact ⟨h _ _ rfl,h _ _ rfl⟩
def Qu0 (w w':World)(e:Ending)(r:Nat×Nat×Nat×List Nat):Prop:=∃ u,e=D (.tuple #[I J (r.1:Int),u])∧Qby w.heap.size w' u r.2.1 r.2.2.1 r.2.2.2
theorem Jba {bs:List Nat}(h:18≤bs.length):Qcn ((bs.drop 16).take 2)=Qbg bs:=by
 have e:(bs.drop 16).take 2=[bs.getD 16 0,bs.getD 17 0]:=by
  apply List.ext_getElem?
  intro i
  match i with
  | 0=>rw [List.getElem?_take_of_lt (by omega),List.getElem?_drop,List.getElem?_eq_getElem (by omega)]; simp [K,List.getElem?_eq_getElem (show 16 < bs.length by omega)]
  | 1=>rw [List.getElem?_take_of_lt (by omega),List.getElem?_drop,List.getElem?_eq_getElem (by omega)]; simp [K,List.getElem?_eq_getElem (show 17 < bs.length by omega)]
  | i+2=>simp; omega
 rw [e]
 simp [Qcn,Qbg]
 omega
theorem Jap (w:World)(b o c n:Nat)(xs:List Nat)(hn:xs.length=n)(hlt:∀ x∈xs,x < 256)(hc:∀ i,i < n→w.cell? ⟨b,o+i,Y⟩=E (I .u8 (xs.getD i 0:Int))) :
  (convert 22 9 (Z (E ⟨b,o,Y⟩) n c)).run Q w=.ok (.string ⟨(xs.map UInt8.ofNat).toArray⟩) w:=by
 subst hn
 have:=run_convert_bytes_back (P:=Q) w 22 9 5 ⟨b,o,Y⟩ c (xs.map UInt8.ofNat) Tryz.underlying22 Tryz.underlying5 Tryz.underlying9 (fun j hj=>by
  rw [List.length_map] at hj
  rw [Addr.add_mid,hc j hj]
  have h9:xs.getD j 0=xs[j]:=by rw [K,List.getElem?_eq_getElem hj]; rfl
  have h8:=hlt xs[j] (List.getElem_mem hj)
  rw [h9]
  simp
  omega)
 simpa using this
theorem Jbi (xs:List Nat)(h:xs.length=16)(hlt:∀ x∈xs,x < 256):((⟨(xs.map UInt8.ofNat).toArray⟩:ByteArray)=⟨#[255,255,255,255,255,255,255,255,255,255,255,255,255,255,255,255]⟩)↔xs=List.replicate 16 255:=by
 constructor
 ·intro e
  have e2:=congrArg (fun s:ByteArray=>s.data.toList.map UInt8.toNat) e
  simp only [List.map_map] at e2
  have e3:xs.map (UInt8.toNat ∘ UInt8.ofNat)=xs:=by
   have:∀ x∈xs,(UInt8.toNat ∘ UInt8.ofNat) x=id x:=fun x hx=>by have:=hlt x hx; simp; omega
   rw [List.map_congr_left this]; simp
  rw [e3] at e2
  exact e2
 ·intro e
  subst e
  rfl
theorem Qrt (a:Option Addr)(c n:Nat)(w:World)(h:n < 19) :
  Calls Q 19 #[Z a n c] w fun e w'=>Qu0 w w' e (0,0,0,[])∧Below w.heap.size w w':=by
 go_enter Tryz.func19,Tryz.ntmps19
 go_wp2_with fail
 refine bodyPost_ret (v:=.tuple #[I J 0,.agg #[I J 0,I J 0,Z Y 0 0]]) (by simp [results,Tryz.results19,go_sem]) rfl ⟨⟨_,rfl,Y,0,rfl,Qbm _ _ _ _⟩,?_⟩
 exact (T _ _).alloc (V _) _
theorem Qde {w W:World}{X:Nat}{u0 u1 u2:Value} (h:Below X w W):Below X w (((W.setCell ⟨X,0,Y⟩ u0).setCell ⟨X,1,Y⟩ u1).setCell ⟨X,2,Y⟩ u2).drew :=
 have h9:=((h.setCell (p:=⟨X,0,Y⟩) (V _) u0).setCell (p:=⟨X,1,Y⟩) (V _) u1).setCell (p:=⟨X,2,Y⟩) (V _) u2
 ⟨h9.os,h9.tape,h9.output,h9.size,h9.block⟩
theorem Qjf {W:World}{B X n:Nat}{v u0 u1 u2:Value}{xs:List Value} (h:W.ownsRow B 5 1 v n xs) (hX:X < B):(((W.setCell ⟨X,0,Y⟩ u0).setCell ⟨X,1,Y⟩ u1).setCell ⟨X,2,Y⟩ u2).drew.ownsRow B 5 1 v n xs :=
 Qaq (Qac (Qac (Qac h hX 0 u0) hX 1 u1) hX 2 u2) ⟨rfl,rfl,rfl,V _,fun _ _=>rfl⟩
theorem Que (b o c n:Nat)(bs:List Nat)(w:World)(hn:bs.length=n)(h19:19≤n)(hl:n≤100000)(hcap:n≤c)(h:BRd w (E ⟨b,o,Y⟩) bs)(hS:Qdb w) :
  Calls Q 19 #[Z (E ⟨b,o,Y⟩) n c] w fun e w'=>Qu0 w w' e (Qa6 bs)∧Below w.heap.size w w':=by
 obtain ⟨b',o',e9,hc⟩:=h.1.2 (by omega)
 cases e9
 have HC:Hid (∀ i,i < n→w.cell? ⟨b,o+i,Y⟩=E (I .u8 (bs.getD i 0:Int))):=fun i hi=>hc i (by omega)
 have c18:=HC.out 18 (by omega)
 have zb:=L w _ c18
 simp only at zb
 have hlen2:((bs.drop 16).take 2).length=2:=by rw [R,List.length_drop]; omega
 have hlen1:((bs.drop 18).take 1).length=1:=by rw [R,List.length_drop]; omega
 have hbA:Below w.heap.size w (w.alloc (U #[I J 0,I J 0,Z Y 0 0] 38)):=(T _ _).alloc (V _) _
 have hbm:∀ m,Below w.heap.size w ((w.alloc (U #[I J 0,I J 0,Z Y 0 0] 38)).drewN m):=fun m=>Qaj hbA m
 have br2:BRd w (E ⟨b,o+16,Y⟩) ((bs.drop 16).take 2):=Qcq h 16 2 (by omega)
 have K1:Hid (∀ m,Calls Q 38 #[Z (E ⟨b,o+16,Y⟩) 2 (c - 16)] ((w.alloc (U #[I J 0,I J 0,Z Y 0 0] 38)).drewN m) fun e w'=>e=D (I J (Qbg bs:Int))∧w'=((w.alloc (U #[I J 0,I J 0,Z Y 0 0] 38)).drewN m)):=fun m=>by
  have h2:=br2.below (hbm m)
  obtain ⟨b2,o2,e2,hc2⟩:=h2.1.2 (by omega)
  cases e2
  have:=Qh8 b (o+16) 2 (c - 16) ((bs.drop 16).take 2) _ hlen2 (by omega) h2.2 (fun i hi=>hc2 i (by omega))
  rwa [Jba (by omega)] at this
 have K2:Hid (∀ m,Calls Q 20 #[I J 1,I J 2,Z (E ⟨b,o+16,Y⟩) 2 (c - 16)] ((w.alloc (U #[I J 0,I J 0,Z Y 0 0] 38)).drewN m) fun e w2=>∃ a9 c9,e=D (.agg #[I J 1,I J 2,Z a9 2 c9])∧Hid (w2.ownsRow (w.heap.size+1) 5 1 (Z a9 2 c9) 2 (Qal ((bs.drop 16).take 2)))∧Hid (Below w.heap.size w w2)∧Hid (Qc3 w2 w.heap.size)):=fun m=>by
  have hsz:((w.alloc (U #[I J 0,I J 0,Z Y 0 0] 38)).drewN m).heap.size=w.heap.size+1:=by show (w.alloc _).heap.size=_; simp
  refine (Qh3 1 2 (E ⟨b,o+16,Y⟩) (c - 16) 2 ((bs.drop 16).take 2) _ w.heap.size hlen2 (by omega) (br2.below (hbm m)) ((Qc3.made w).below (B:=w.heap.size+1) ⟨rfl,rfl,rfl,V _,fun _ _=>rfl⟩ (by omega))).mono ?_
  rintro e w2 ⟨a9,c9,rfl,ho,hb3,hx⟩
  rw [hsz] at ho hb3
  exact ⟨a9,c9,rfl,ho,(hbm m).trans (hb3.out.mono (by omega)),hx⟩
 have hk:bs.getD 18 0 < 256:=Qau h.2 18
 have hs16:bs.getD 16 0 < 256:=Qau h.2 16
 have hs17:bs.getD 17 0 < 256:=Qau h.2 17
 have hsz:Qbg bs < 65536:=by unfold Qbg; omega
 have HH:=Qaa h
 have HS:=Qaa hS
 have HM1:Hid (bs.take 16≠List.replicate 16 255→Qa6 bs=(0,1,1,[])):=fun hm=>Qh9 (by omega) hm
 have HM2:Hid (bs.take 16=List.replicate 16 255→(Qbg bs < 19∨4096 < Qbg bs)→Qa6 bs=(0,1,2,(bs.drop 16).take 2)):=fun hm h2=>Qih (by omega) (fun x=>x hm) h2
 have HM3:Hid (bs.take 16=List.replicate 16 255→¬ (Qbg bs < 19∨4096 < Qbg bs)→(bs.getD 18 0 < 1∨4 < bs.getD 18 0)→Qa6 bs=(0,1,3,(bs.drop 18).take 1)):=fun hm h2 h3=>Qim (by omega) (fun x=>x hm) h2 h3
 have HM4:Hid (bs.take 16=List.replicate 16 255→¬ (Qbg bs < 19∨4096 < Qbg bs)→¬ (bs.getD 18 0 < 1∨4 < bs.getD 18 0)→(Qbg bs < Qdn (bs.getD 18 0)∨Qei (bs.getD 18 0) < Qbg bs)→Qa6 bs=(0,1,2,(bs.drop 16).take 2)):=fun hm h2 h3 h4=>Qij (by omega) (fun x=>x hm) h2 h3 h4
 have HM5:Hid (bs.take 16=List.replicate 16 255→¬ (Qbg bs < 19∨4096 < Qbg bs)→¬ (bs.getD 18 0 < 1∨4 < bs.getD 18 0)→¬ (Qbg bs < Qdn (bs.getD 18 0)∨Qei (bs.getD 18 0) < Qbg bs)→Qa6 bs=(Qbg bs,0,0,[])):=fun hm h2 h3 h4=>Qh5 (by omega) (fun x=>x hm) h2 h3 h4
 have HD1:Hid ((bs.drop 18).take 1=[bs.getD 18 0]):=by
  show _=_
  apply List.ext_getElem?
  intro i
  match i with
  | 0=>rw [List.getElem?_take_of_lt (by omega),List.getElem?_drop,List.getElem?_eq_getElem (by omega)]; simp [K,List.getElem?_eq_getElem (show 18 < bs.length by omega)]
  | i+1=>simp; omega
 have HSE:=Qaa (Jbi (bs.take 16) (by rw [R]; omega) (Qj7 h.2 16))
 have HCV:Hid (∀ W,Below w.heap.size w W→(convert 22 9 (Z (E ⟨b,o,Y⟩) 16 c)).run Q W=.ok (.string ⟨((bs.take 16).map UInt8.ofNat).toArray⟩) W):=fun W hW=>by
  have h2:=Qe8 (h.below hW) 16
  obtain ⟨b2,o2,e2,hc2⟩:=h2.1.2 (by rw [R]; omega)
  cases e2
  exact Jap W b o c 16 (bs.take 16) (by rw [R]; omega) h2.2 (fun i hi=>hc2 i (by rw [R]; omega))
 have HB2:=Qaa br2
 have HL1:=Qaa hlen1
 have HL2:=Qaa hlen2
 have HN:=Qaa hn
 clear hc h hS hlen1 hlen2 hs16 hs17 br2 hbm hbA hn
 generalize hkd:bs.getD 18 0=kd at *
 generalize hszd:Qbg bs=sz at *
 clear hkd hszd
 go_enter Tryz.func19,Tryz.ntmps19
 go_wp2_with fail
 go_quiet ((go_at_call 38; exact Calls.quiet_of_same (K1.out _)))
 go_wp2_with fail
 refine (K2.out _).mono ?_
 rintro e w2 ⟨a9,c9,rfl,HO,HB,HX⟩
 have HBX:Hid (Qc3 (w2.alloc (U #[I J 1,I J 2,Z a9 2 c9] 38)) w.heap.size):=HX.out.below ((T w2.heap.size _).alloc (V _) _) HX.out.1
 have hlt2:w.heap.size < w2.heap.size:=HX.out.1
 have hcv:=HCV.out (w2.alloc (U #[I J 1,I J 2,Z a9 2 c9] 38)) (HB.out.trans (((T _ _).alloc (V _) _).mono HB.out.size))
 generalize (⟨((bs.take 16).map UInt8.ofNat).toArray⟩:ByteArray)=S at *
 by_cases hq:S=⟨#[255,255,255,255,255,255,255,255,255,255,255,255,255,255,255,255]⟩
 ·have hmk:=Qaa (HSE.out.1 hq)
  clear HM1 HSE
  subst hq
  have hsd:Qdb (w2.alloc (U #[I J 1,I J 2,Z a9 2 c9] 38)):=HS.out.below (HB.out.trans (((T _ _).alloc (V _) _).mono HB.out.size))
  have cW:(w2.alloc (U #[I J 1,I J 2,Z a9 2 c9] 38)).cell? ⟨b,o+18,Y⟩=E (I .u8 (kd:Int)):=by
   rw [(HB.out.trans (((T _ _).alloc (V _) _).mono HB.out.size)).cell (p:=⟨b,o+18,Y⟩) zb]; exact c18
  have HSD:=Qaa hsd
  have HBW:Hid (Below w.heap.size w (w2.alloc (U #[I J 1,I J 2,Z a9 2 c9] 38))):=HB.out.trans (((T _ _).alloc (V _) _).mono HB.out.size)
  obtain ⟨hz,r0,r1,r2,f0,f1,f2⟩:=HBX.out
  have x0:(w2.alloc (U #[I J 1,I J 2,Z a9 2 c9] 38)).cell? ⟨w2.heap.size,0,Y⟩=E (I J 1):=by simp [go_sem]
  have x1:(w2.alloc (U #[I J 1,I J 2,Z a9 2 c9] 38)).cell? ⟨w2.heap.size,1,Y⟩=E (I J 2):=by simp [go_sem]
  have x2:(w2.alloc (U #[I J 1,I J 2,Z a9 2 c9] 38)).cell? ⟨w2.heap.size,2,Y⟩=E (Z a9 2 c9):=by simp [go_sem]
  have hz2:w2.heap.size < (w2.alloc (U #[I J 1,I J 2,Z a9 2 c9] 38)).heap.size:=by simp
  have HOW:Hid ((w2.alloc (U #[I J 1,I J 2,Z a9 2 c9] 38)).ownsRow (w.heap.size+1) 5 1 (Z a9 2 c9) 2 (Qal ((bs.drop 16).take 2))):=HO.out.alloc _
  have HOB:=Qaa (Qb1 HOW.out)
  clear hsd
  by_cases h2:sz < 19∨4096 < sz
  ·have HR:=Qaa (HM2.out hmk.out h2)
   clear HM2 HM3 HM4 HM5
   have HE:Hid (∀ W u,Below w.heap.size w W→W.ownsRow (w.heap.size+1) 5 1 (Z a9 2 c9) 2 (Qal ((bs.drop 16).take 2))→u=.agg #[I J 1,I J 2,Z a9 2 c9]→Qu0 w W (D (.tuple #[I J 0,u])) (Qa6 bs)):=fun W u hW ho hu=>by
    rw [HR.out,hu]
    refine ⟨_,rfl,a9,c9,?_,?_⟩
    ·simp only [HL2.out]; rfl
    ·simp only [HL2.out]; exact Qa0 ho (by omega)
   have h2b:((sz:Int) < 19)∨(¬ ((sz:Int) < 19)∧(4096 < (sz:Int))):=by omega
   clear h2
   rcases h2b with h2 | ⟨h2,h2'⟩
   ·go_wp2_with fail
    generalize (w2.alloc (U #[I J 1,I J 2,Z a9 2 c9] 38))=W at *
    go_region
    go_wp2_with fail
    refine bodyPost_ret (v:=.tuple #[I J 0,.agg #[I J 1,I J 2,Z a9 2 c9]]) (by simp [results,Tryz.results19,go_sem,r0,r1,r2]) rfl ⟨HE.out _ _ ?_ ?_ rfl,?_⟩
    ·exact Qde HBW.out
    ·exact Qjf HOW.out (by omega)
    ·exact Qde HBW.out
   ·go_wp2_with fail
    generalize (w2.alloc (U #[I J 1,I J 2,Z a9 2 c9] 38))=W at *
    go_region
    go_wp2_with fail
    refine bodyPost_ret (v:=.tuple #[I J 0,.agg #[I J 1,I J 2,Z a9 2 c9]]) (by simp [results,Tryz.results19,go_sem,r0,r1,r2]) rfl ⟨HE.out _ _ ?_ ?_ rfl,?_⟩
    ·exact Qde HBW.out
    ·exact Qjf HOW.out (by omega)
    ·exact Qde HBW.out
  ·have hn1:¬ ((sz:Int) < 19):=by omega
   have hn2:¬ ((4096:Int) < (sz:Int)):=by omega
   by_cases h3:kd < 1∨4 < kd
   ·have HR:=Qaa (HM3.out hmk.out h2 h3)
    rw [HD1.out] at HR
    clear HM2 HM3 HM4 HM5 h2
    have HK:Hid (Calls Q 20 #[I J 1,I J 3,Z (E ⟨w2.heap.size+1,0,Y⟩) 1 1] ((w2.alloc (U #[I J 1,I J 2,Z a9 2 c9] 38)).alloc (U #[I .u8 (kd:Int)] 5)) fun e w3=>∃ a8 c8,e=D (.agg #[I J 1,I J 3,Z a8 1 c8])∧Hid (w3.ownsRow (w.heap.size+1) 5 1 (Z a8 1 c8) 1 (Qal [kd]))∧Hid (Below w.heap.size w w3)∧Hid (Qc3 w3 w.heap.size)):=by
     have hba:=(T (w2.alloc (U #[I J 1,I J 2,Z a9 2 c9] 38)).heap.size (w2.alloc (U #[I J 1,I J 2,Z a9 2 c9] 38))).alloc (V _) (U #[I .u8 (kd:Int)] 5)
     refine (Qh3 1 3 (E ⟨w2.heap.size+1,0,Y⟩) 1 1 [kd] _ w.heap.size rfl (by omega) ?_ (HBX.out.below hba hz)).mono ?_
     ·refine ⟨⟨by simp [maxLen],fun _=>⟨_,0,rfl,fun i hi=>?_⟩⟩,by simp; omega⟩
      have:i=0:=by simp at hi; omega
      subst this
      simp [go_sem]
     ·rintro e w3 ⟨a8,c8,rfl,ho,hb,hx⟩
      refine ⟨a8,c8,rfl,Qa0 ho.out (by simp; omega),?_,hx⟩
      exact (HBW.out.trans (hba.mono (by omega))).trans (hb.out.mono (by simp; omega))
    clear HBX HSD HOW HOB
    have h3b:((kd:Int) < 1)∨(¬ ((kd:Int) < 1)∧(4 < (kd:Int))):=by omega
    clear h3
    rcases h3b with h3 | ⟨h3,h3'⟩
    ·go_wp2_with fail
     with_reducible refine HK.out.mono ?_
     rintro e w3 ⟨a8,c8,rfl,HO3,HB3,HX3⟩
     obtain ⟨hz,r0,r1,r2,f0,f1,f2⟩:=HX3.out
     go_wp2_with fail
     refine bodyPost_ret (v:=.tuple #[I J 0,.agg #[I J 1,I J 3,Z a8 1 c8]]) (by simp [results,Tryz.results19,go_sem,r0,r1,r2]) rfl ⟨?_,?_⟩
     ·rw [HR.out]
      refine ⟨_,rfl,a8,c8,rfl,Qa0 (Qac (Qac (Qac HO3.out ?_ _ _) ?_ _ _) ?_ _ _) ?_⟩ <;> omega
     ·exact ((HB3.out.setCell (V _) _).setCell (V _) _).setCell (V _) _
    ·go_wp2_with fail
     with_reducible refine HK.out.mono ?_
     rintro e w3 ⟨a8,c8,rfl,HO3,HB3,HX3⟩
     obtain ⟨hz,r0,r1,r2,f0,f1,f2⟩:=HX3.out
     go_wp2_with fail
     refine bodyPost_ret (v:=.tuple #[I J 0,.agg #[I J 1,I J 3,Z a8 1 c8]]) (by simp [results,Tryz.results19,go_sem,r0,r1,r2]) rfl ⟨?_,?_⟩
     ·rw [HR.out]
      refine ⟨_,rfl,a8,c8,rfl,Qa0 (Qac (Qac (Qac HO3.out ?_ _ _) ?_ _ _) ?_ _ _) ?_⟩ <;> omega
     ·exact ((HB3.out.setCell (V _) _).setCell (V _) _).setCell (V _) _
   ·have k1:1≤kd:=by omega
    have k4:kd≤4:=by omega
    obtain ⟨s0,s1⟩:=HSD.out.at kd k1 k4
    have zg:=HSD.out.pos
    have hle:Qdn kd≤29:=by unfold Qdn; repeat (first | omega | split)
    have hmo:Qei kd≤4096:=by unfold Qei; repeat (first | omega | split)
    have kd0:(0:Int)≤(kd:Int):=Int.natCast_nonneg _
    have kd5:(kd:Int) < 5:=by omega
    have kn1:¬ ((kd:Int) < 1):=by omega
    have kn4:¬ ((4:Int) < (kd:Int)):=by omega
    by_cases h4:sz < Qdn kd∨Qei kd < sz
    ·have HR:=Qaa (HM4.out hmk.out h2 h3 h4)
     clear HM2 HM3 HM4 HM5 h2 h3
     have HE:Hid (∀ W u,Below w.heap.size w W→W.ownsRow (w.heap.size+1) 5 1 (Z a9 2 c9) 2 (Qal ((bs.drop 16).take 2))→u=.agg #[I J 1,I J 2,Z a9 2 c9]→Qu0 w W (D (.tuple #[I J 0,u])) (Qa6 bs)):=fun W u hW ho hu=>by
      rw [HR.out,hu]
      refine ⟨_,rfl,a9,c9,?_,?_⟩
      ·simp only [HL2.out]; rfl
      ·simp only [HL2.out]; exact Qa0 ho (by omega)
     generalize Qdn kd=le at *
     generalize Qei kd=mo at *
     have h4b:((sz:Int) < (le:Int))∨(¬ ((sz:Int) < (le:Int))∧((mo:Int) < (sz:Int))):=by omega
     clear h4
     rcases h4b with h4 | ⟨h4,h4'⟩
     ·go_wp2_with fail
      generalize (w2.alloc (U #[I J 1,I J 2,Z a9 2 c9] 38))=W at *
      go_region
      go_wp2_with fail
      refine bodyPost_ret (v:=.tuple #[I J 0,.agg #[I J 1,I J 2,Z a9 2 c9]]) (by simp [results,Tryz.results19,go_sem,r0,r1,r2]) rfl ⟨HE.out _ _ ?_ ?_ rfl,?_⟩
      ·exact Qde HBW.out
      ·exact Qjf HOW.out (by omega)
      ·exact Qde HBW.out
     ·go_wp2_with fail
      generalize (w2.alloc (U #[I J 1,I J 2,Z a9 2 c9] 38))=W at *
      go_region
      go_wp2_with fail
      refine bodyPost_ret (v:=.tuple #[I J 0,.agg #[I J 1,I J 2,Z a9 2 c9]]) (by simp [results,Tryz.results19,go_sem,r0,r1,r2]) rfl ⟨HE.out _ _ ?_ ?_ rfl,?_⟩
      ·exact Qde HBW.out
      ·exact Qjf HOW.out (by omega)
      ·exact Qde HBW.out
    ·have HR:=Qaa (HM5.out hmk.out h2 h3 h4)
     clear HM2 HM3 HM4 HM5 h2 h3
     have h4a:¬ ((sz:Int) < (Qdn kd:Int)):=by omega
     have h4c:¬ ((Qei kd:Int) < (sz:Int)):=by omega
     generalize Qdn kd=le at *
     generalize Qei kd=mo at *
     clear h4 r0 r1 r2 f0 f1 f2 hz x0 x1 x2
     obtain ⟨hz,r0,r1,r2,f0,f1,f2⟩:=HX.out
     go_wp2_with fail
     refine bodyPost_ret (v:=.tuple #[I J (sz:Int),.agg #[I J 0,I J 0,Z Y 0 0]]) (by simp [results,Tryz.results19,go_sem,r0,r1,r2,hz]) rfl ⟨?_,?_⟩
     ·rw [HR.out]; exact ⟨_,rfl,Y,0,rfl,Qbm _ _ _ _⟩
     ·exact (((HB.out.setCell (V _) _).setCell (V _) _).setCell (V _) _).alloc (by simp; omega) _
 ·have hmk:=Qaa (HM1.out (fun h9=>hq (HSE.out.2 h9)))
  have hq2:(S.toList == [255,255,255,255,255,255,255,255,255,255,255,255,255,255,255,255])=false:=by
   rw [ByteArray.toList_eq,Bool.eq_false_iff]
   intro h9
   refine hq ?_
   obtain ⟨⟨l⟩⟩:=S
   rw [show l=[255,255,255,255,255,255,255,255,255,255,255,255,255,255,255,255] from by simpa using h9]
  clear hq HSE HM1 HM2 HM3 HM4 HM5
  go_wp2_with fail
  refine (Qh3 1 1 Y 0 0 [] _ w.heap.size rfl (by omega) (Qbf _ _) HBX.out).mono ?_
  rintro e w3 ⟨a8,c8,rfl,HO3,HB3,HX3⟩
  obtain ⟨hz,r0,r1,r2,f0,f1,f2⟩:=HX3.out
  go_wp2_with fail
  refine bodyPost_ret (v:=.tuple #[I J 0,.agg #[I J 1,I J 1,Z a8 0 c8]]) (by simp [results,Tryz.results19,go_sem,r0,r1,r2]) rfl ⟨?_,?_⟩
  ·rw [hmk.out]
   refine ⟨_,rfl,a8,c8,rfl,Qa0 (Qac (Qac (Qac HO3.out ?_ _ _) ?_ _ _) ?_ _ _) ?_⟩ <;> simp <;> omega
  ·have h9:Below w.heap.size w w3:=HB.out.trans ((((T w2.heap.size _).alloc (V _) _).mono HB.out.size).trans (HB3.out.mono (by simp; omega)))
   exact ((h9.setCell (V _) _).setCell (V _) _).setCell (V _) _
theorem Qv8 (a:Option Addr)(c:Nat)(bs:List Nat)(w:World)(hl:bs.length≤100000)(hcap:bs.length≤c)(h:BRd w a bs)(hS:Qdb w) :
  Calls Q 19 #[Z a bs.length c] w fun e w'=>Qu0 w w' e (Qa6 bs)∧Below w.heap.size w w':=by
 by_cases h1:bs.length < 19
 ·rw [Qf1 h1]; exact Qrt a c _ w h1
 ·obtain ⟨b,o,rfl,_⟩:=h.1.2 (by omega)
  exact Que b o c _ bs w rfl (by omega) hl hcap h hS
open Go.ChangeShapes Go.WideShapes Go.ChangeAt Go.RowKit
theorem gSaidM:Q.globalNamed "interregnum/msg.said" = E 0:=by kernel_rfl
theorem gSaidMType:(Q.globals[0]?).map (·.type)=E 81:=by kernel_rfl
theorem cellsTabM:Q.cellsOf 81=10:=by kernel_rfl
theorem cellsRowM:Q.cellsOf 80=2:=by kernel_rfl
theorem cellsIntM:Q.cellsOf 3=1:=by kernel_rfl
set_option maxRecDepth 100000 in
/-- A row of the table, cell for cell. -/
theorem Jaz {w:World}{base:Nat}{sp:Nat→Bool}{held:Bool}{fuel:Nat}{cs:List Value}{z0 z1:Int}{x:DataW Unit×List MemPlace} (hl:cs.length=2)
  (h:DataW.trod (fun _=>()) Q w base sp held fuel 80 cs=E x) (hx:x.1=.agg [.lit (.int J z0),.lit (.int J z1)]) :
  cs=[I J z0,I J z1]:=by
 obtain ⟨xs,k,_,hxe,_,hxl,hf⟩:=DataW.trod_struct Tryz.underlying80 h
 have hxl4:xs.length=2:=hxl
 clear hxl
 match xs,hxl4,cs,hl with
 | [y0,y1],_,[c0,c1],_ =>
  have g0:=hf 0 _ rfl
  have g1:=hf 1 _ rfl
  simp [cellsIntM] at g0 g1
  obtain ⟨n0,e0,q0,_⟩:=DataW.trod_int Tryz.underlying3 g0
  obtain ⟨n1,e1,q1,_⟩:=DataW.trod_int Tryz.underlying3 g1
  rw [hxe,q0,q1] at hx
  simp at hx e0 e1
  obtain ⟨rfl,rfl⟩:=hx
  rw [e0,e1]
theorem Qxo {W:World}(h:laidMet Q [("interregnum/attr.said",Rows.laid_interregnum_attr_said),("interregnum/msg.said",Rows.laid_interregnum_msg_said)] W):Qdb W:=by
 obtain ⟨ps,⟨_,_,_,_,_,_,_,_,_,_,⟨g,t,cs,fuel,p,q,hg,ht,hvar,hd,_,_⟩,_⟩,_⟩:=h
 obtain rfl:=Option.some.inj (gSaidM.symm.trans hg)
 obtain rfl:=Option.some.inj (gSaidMType.symm.trans ht)
 obtain ⟨xs,m,_,hxe,hlen,hxl,hrow⟩:=DataW.trod_array Tryz.underlying81 hd
 rw [cellsTabM] at hlen
 have hsz:cs.size=10:=by simpa using hlen
 have hxs:xs.map (·.1)=(match (Rows.laid_interregnum_msg_said:DataW Unit) with | .agg l=>l | _=>[]):=by
  have:=congrArg Prod.fst hxe
  unfold Rows.laid_interregnum_msg_said at this ⊢
  simp only [DataW.agg.injEq] at this
  exact this.symm
 have key:∀ i,i < 5→(cs.toList.drop (i * 2)).take 2=[I J (saidML.getD (i * 2) 0),I J (saidML.getD (i * 2+1) 0)]:=fun i hi=>by
  have hr:=hrow i hi
  rw [cellsRowM,List.getElem?_eq_getElem (by omega)] at hr
  refine Jaz (by simp; omega) hr ?_
  have h9:(xs.map (·.1))[i]?=E (xs[i]'(by omega)).1:=by rw [List.getElem?_map,List.getElem?_eq_getElem (by omega)]; rfl
  rw [hxs] at h9
  rcases (by omega:i=0∨i=1∨i=2∨i=3∨i=4) with rfl | rfl | rfl | rfl | rfl <;> exact (Option.some.inj h9).symm
 intro k z hk
 have hk10:k < 10:=by have:=(List.getElem?_eq_some_iff.1 hk).1; simpa [saidML] using this
 rw [World.var?_cell hg hvar k,← Array.getElem?_toList]
 have hz:saidML.getD k 0=z:=by rw [K,hk]; rfl
 have h9:=congrArg (fun l=>l[k % 2]?) (key (k / 2) (by omega))
 simp only [List.getElem?_take,List.getElem?_drop] at h9
 rw [if_pos (by omega),show k / 2 * 2+k % 2=k by omega] at h9
 rw [h9,← hz]
 rcases (by omega:k % 2=0∨k % 2=1) with e | e
 ·rw [e,show k=k / 2 * 2 by omega]; simp
 ·rw [e]; conv=>rhs; rw [show k=k / 2 * 2+1 by omega]
  simp
def saidAL:List Int:=[0,0,0,0,64,1,1,1,64,0,65535,1,64,4,4,4,128,4,4,4,64,4,4,4,64,0,0,1,192,8,8,8,192,4,65535,4]
def Jbd (l:List Int)(o:Obj):Obj:=match o with
 | U _ t frozen=>U (l.map fun z=>Value.int J z).toArray t frozen
 | o=>o
noncomputable def laidWM (os:Os):World :=
 { World.holding Q os ⟨#[],#[],[]⟩ with heap:=((World.holding Q os ⟨#[],#[],[]⟩).heap.modify 0 (Jbd saidML)).modify 1 (Jbd saidAL) }
def saidL:List Int:=[0,0,0,0,64,1,1,1,64,0,65535,1,64,4,4,4,128,4,4,4,64,4,4,4,64,0,0,1,192,8,8,8,192,4,65535,4]
def Qfa (w:World):Prop:=∀ k z,saidL[k]?=E z→w.cell? ⟨1,k,Y⟩=E (I J z)
theorem Qfa.pos {w:World}(h:Qfa w):1 < w.heap.size:=by
 have:=L w _ (h 0 0 rfl)
 simpa using this
theorem Qfa.below {w w':World}(h:Qfa w)(hb:Below w.heap.size w w'):Qfa w':=fun k z hk=>by
 rw [hb.cell (p:=⟨1,k,Y⟩) (by exact h.pos)]
 exact h k z hk
theorem Qfa.keeps {F:Nat→Prop}{w w':World} (h:Qfa w) (hk:Qae F w w') (hF:¬ F 1):Qfa w':=fun k z hz=>by
 rw [hk.cell ⟨1,k,Y⟩ (by exact h.pos) hF]
 exact h k z hz
def Qhp (k:Nat):Nat:=if k=1 then 1 else if k=3∨k=4∨k=5∨k=8 then 4 else if k=7 then 8 else 0
def Qi9 (k:Nat):Nat:=if k=1 then 1 else if k=3∨k=4∨k=5 then 4 else if k=7 then 8 else if k=6 then 0 else 65535
def Qkt (k:Nat):Nat:=if k=3∨k=4∨k=5∨k=8 then 4 else if k=7 then 8 else 1
def Qed (k:Nat):Nat:=if k=4 then 128 else if k=7∨k=8 then 192 else 64
theorem Qfa.at {w:World}(h:Qfa w)(k:Nat)(h1:1≤k)(h8:k≤8) :
  w.cell? ⟨1,k * 4,Y⟩=E (I J (Qed k:Int))∧w.cell? ⟨1,k * 4+1,Y⟩=E (I J (Qhp k:Int))∧w.cell? ⟨1,k * 4+2,Y⟩=E (I J (Qi9 k:Int))∧w.cell? ⟨1,k * 4+3,Y⟩=E (I J (Qkt k:Int)):=by
 have hk:k=1∨k=2∨k=3∨k=4∨k=5∨k=6∨k=7∨k=8:=by omega
 rcases hk with rfl | rfl | rfl | rfl | rfl | rfl | rfl | rfl <;> exact ⟨h _ _ rfl,h _ _ rfl,h _ _ rfl,h _ _ rfl⟩
def Qfj (k n:Nat):Bool:=decide (Qhp k≤n∧n≤Qi9 k∧n % Qkt k=0)
theorem Qsl (i:Nat)(w:World)(hi:i < 4):Calls Q 123 #[I J (i:Int)] w fun e w'=>e=D (I J ((8 * (3 - i):Nat):Int))∧w'=w:=by
 go_enter Tryz.func123,Tryz.ntmps123
 go_wp2
 go_ret
 exact ⟨Qfu (by omega),rfl⟩
theorem Qm8 (z:Int)(w:World):Calls Q 97 #[I J z] w fun e w'=>e=D (.bool (decide (0≤z∧z≤2)))∧w'=w:=by
 by_cases h:0≤z
 ·have HD:Hid (decide (0≤z∧z≤2)=decide (z≤2)):=by show decide _=_; rw [Bool.eq_iff_iff]; simp [h]
  go_enter Tryz.func97,Tryz.ntmps97
  go_wp2
  go_ret
  exact ⟨Qa8 HD.out.symm,rfl⟩
 ·have HD:Hid (decide (0≤z∧z≤2)=false):=by show decide _=_; exact decide_eq_false (fun h9=>h h9.1)
  have h2:decide (0≤z)=false:=decide_eq_false h
  clear h
  go_enter Tryz.func97,Tryz.ntmps97
  go_wp2
  go_ret
  exact ⟨Qa8 HD.out.symm,rfl⟩
theorem Qr0 (n:Nat)(w:World)(hn:n < 4294967296):Calls Q 100 #[I .u32 (n:Int)] w fun e w'=>e=D (.bool (Qk0 n))∧w'=w:=by
 have e1:(n:Int) / 16777216=((n / 16777216:Nat):Int):=by omega
 unfold Qk0
 by_cases h0:n=0
 ·subst h0
  go_enter Tryz.func100,Tryz.ntmps100
  go_wp2
  go_ret
  exact ⟨rfl,rfl⟩
 ·have z0:((n:Int) != 0)=true:=by simp; omega
  by_cases h1:n / 16777216=127
  ·have HD:Hid (decide (n≠0∧n / 16777216≠127∧n / 16777216 < 224)=false):=by show decide _=_; exact decide_eq_false (fun h9=>h9.2.1 h1)
   have z1:((n:Int) / 16777216 != 127)=false:=by rw [e1,h1]; rfl
   clear h0 e1
   go_enter Tryz.func100,Tryz.ntmps100
   go_wp2
   go_ret
   exact ⟨Qa8 HD.out.symm,rfl⟩
  ·have HD:Hid (decide (n≠0∧n / 16777216≠127∧n / 16777216 < 224)=decide ((n:Int) / 16777216 < 224)):=by
    show decide _=_
    rw [Bool.eq_iff_iff]
    simp only [decide_eq_true_eq]
    omega
   have z1:((n:Int) / 16777216 != 127)=true:=by simp; omega
   clear h0 e1 h1
   go_enter Tryz.func100,Tryz.ntmps100
   go_wp2
   go_ret
   exact ⟨Qa8 HD.out.symm,rfl⟩
theorem Qwd (k n:Nat)(w:World)(hS:Qfa w)(h1:1≤k)(h8:k≤8)(hn:n≤1000000):Calls Q 96 #[I J (k:Int),I J (n:Int)] w fun e w'=>e=D (.bool (Qfj k n))∧w'=w:=by
 obtain ⟨c0,c1,c2,c3⟩:=hS.at k h1 h8
 have he:Qkt k=1∨Qkt k=4∨Qkt k=8:=by unfold Qkt; split <;> (try split) <;> omega
 have hm:Qi9 k≤65535:=by unfold Qi9; repeat (first | omega | split)
 have hl:Qhp k≤8:=by unfold Qhp; repeat (first | omega | split)
 unfold Qfj
 generalize Qhp k=le at *
 generalize Qi9 k=mo at *
 generalize Qkt k=ea at *
 clear hS c0
 have k0:(0:Int)≤(k:Int):=Int.natCast_nonneg _
 have k9:(k:Int) < 9:=by omega
 have jz:((ea:Int) == 0)=false:=by simp; omega
 by_cases ha:le≤n
 ·by_cases hb:n≤mo
  ·have HD:Hid (decide (le≤n∧n≤mo∧n % ea=0)=(((n:Int) % (ea:Int)) == 0)):=by
    show decide _=_
    rw [Bool.eq_iff_iff]
    simp only [decide_eq_true_eq,beq_iff_eq]
    rcases he with rfl | rfl | rfl <;> omega
   go_enter Tryz.func96,Tryz.ntmps96
   go_wp2
   go_ret
   exact ⟨Qa8 HD.out.symm,rfl⟩
  ·have HD:Hid (decide (le≤n∧n≤mo∧n % ea=0)=false):=by show decide _=_; exact decide_eq_false (fun h9=>hb h9.2.1)
   go_enter Tryz.func96,Tryz.ntmps96
   go_wp2
   go_ret
   exact ⟨Qa8 HD.out.symm,rfl⟩
 ·have HD:Hid (decide (le≤n∧n≤mo∧n % ea=0)=false):=by show decide _=_; exact decide_eq_false (fun h9=>ha h9.1)
  go_enter Tryz.func96,Tryz.ntmps96
  go_wp2
  go_ret
  exact ⟨Qa8 HD.out.symm,rfl⟩
/-- An attribute as it is told: its box stays behind. -/
theorem Qwl (k:Nat)(a:Option Addr)(n c:Nat)(w:World)(hS:Qfa w)(h1:1≤k)(h8:k≤8):Calls Q 101 #[I J (k:Int),Z a n c] w fun e w'=>e=D (.agg #[I J (Qed k:Int),I J (k:Int),Z a n c])∧Below w.heap.size w w':=by
 obtain ⟨c0,_,_,_⟩:=hS.at k h1 h8
 have hp:=hS.pos
 generalize Qed k=fl at *
 clear hS
 have k0:(0:Int)≤(k:Int):=Int.natCast_nonneg _
 have k9:(k:Int) < 9:=by omega
 go_enter Tryz.func101,Tryz.ntmps101
 go_wp2
 exact bodyPost_ret (v:=.agg #[I J (fl:Int),I J (k:Int),Z a n c]) (by simp [results,Tryz.results101,go_sem]) rfl ⟨rfl,by repeat (first | exact (T _ _).alloc (V _) _ | refine Below.setCell ?_ (V _) _)⟩
theorem Qvn (x y:Int)(w:World):Calls Q 104 #[I J x,I J y] w fun e w'=>e=D (I J (if x < y then -1 else if y < x then 1 else 0))∧w'=w:=by
 by_cases h:x < y
 ·rw [if_pos h]
  go_enter Tryz.func104,Tryz.ntmps104
  go_wp2
  all_goals go_ret
  all_goals exact ⟨rfl,rfl⟩
 ·rw [if_neg h]
  have h2:decide (x < y)=false:=decide_eq_false h
  clear h
  by_cases h3:y < x
  ·rw [if_pos h3]
   go_enter Tryz.func104,Tryz.ntmps104
   go_wp2
   all_goals go_ret
   all_goals exact ⟨rfl,rfl⟩
  ·rw [if_neg h3]
   have h4:decide (y < x)=false:=decide_eq_false h3
   clear h3
   go_enter Tryz.func104,Tryz.ntmps104
   go_wp2
   all_goals go_ret
   all_goals exact ⟨rfl,rfl⟩
