import Derived.Test.YtdojlejehjbliaaGreatDoorPA18
import Derived.Test.YtdojlejehjbliaaGreatDoorPA17
namespace Go.Proofs.YtdojlejehjbliaaGreatDoor
set_option maxHeartbeats 4000000
open _root_.Go.Value renaming pointer → I,int → U,slice → E
open _root_.Option renaming none → J,some → V
open _root_.Go.Obj renaming cells → Z
open _root_.Go.IntKind renaming i64 → Q
open _root_.Go.Proofs.Tryz renaming prog → Y
open _root_.Nat renaming le_refl → X
open _root_.Go.Ending renaming returned → D
open _root_.Go.RowKit.Below renaming refl → R
open Go.RowKit
set_option maxRecDepth 100000
structure Chk (w:World) (B x:Nat):Prop where
 l1:w.cell? ⟨B,0,J⟩=V (U Q 1)
 m1:w.cell? ⟨B+1,0,J⟩=V (U Q 255)
 l2:w.cell? ⟨B+2,0,J⟩=V (U Q 1)
 m2:w.cell? ⟨B+3,0,J⟩=V (U Q 4294967295)
 m3:w.cell? ⟨B+4,0,J⟩=V (U Q 64)
 ct:w.cell? ⟨B+5,0,J⟩=V (U Q (x:Int))
 fz:w.frozen? ⟨B+5,0,J⟩=false
 f1:w.cell? ⟨B+6,0,J⟩=V (.func (.func 161) #[] #[I (V ⟨B,0,J⟩),I (V ⟨B+1,0,J⟩)])
 f2:w.cell? ⟨B+7,0,J⟩=V (.func (.func 162) #[] #[I (V ⟨B+2,0,J⟩),I (V ⟨B+3,0,J⟩)])
 f3:w.cell? ⟨B+8,0,J⟩=V (.func (.func 163) #[] #[I (V ⟨B+5,0,J⟩),I (V ⟨B+4,0,J⟩)])
theorem Chk.size {w:World}{B x:Nat} (h:Chk w B x):B+8 < w.heap.size:=by
 have:=World.block_lt_of_cell? w _ h.f3
 simpa using this
theorem Chk.keeps {w w':World}{B x:Nat}{F:Nat→Prop} (h:Chk w B x) (hk:Qae F w w') (hF:∀ k,F k→k=B+5) (x':Nat) (hc:w'.cell? ⟨B+5,0,J⟩=V (U Q (x':Int))) (hz:w'.frozen? ⟨B+5,0,J⟩=false):Chk w' B x':=by
 have hs:=h.size
 have key:∀ k,k≤8→k≠5→w'.cell? ⟨B+k,0,J⟩=w.cell? ⟨B+k,0,J⟩:=fun k hk8 hne=>hk.cell ⟨B+k,0,J⟩ (by show B+k < _; omega) (fun h9=>by have:=hF _ h9; simp only at this; omega)
 exact ⟨by rw [← h.l1]; exact key 0 (by omega) (by omega),by rw [← h.m1]; exact key 1 (by omega) (by omega),by rw [← h.l2]; exact key 2 (by omega) (by omega),by rw [← h.m2]; exact key 3 (by omega) (by omega),by rw [← h.m3]; exact key 4 (by omega) (by omega),hc,hz,
  by rw [← h.f1]; exact key 6 (by omega) (by omega),by rw [← h.f2]; exact key 7 (by omega) (by omega),by rw [← h.f3]; exact key 8 (by omega) (by omega)⟩
theorem Chk.later {w w':World}{B x:Nat} (h:Chk w B x) (hb:Below w.heap.size w w'):Chk w' B x :=
 h.keeps (Qae.of_below hb (fun _=>False)) (fun _ h=>h.elim) x (by rw [hb.cell (p:=⟨B+5,0,J⟩) (by have:=h.size; show B+5 < _; omega)]; exact h.ct) (by rw [hb.frozen (p:=⟨B+5,0,J⟩) (by have:=h.size; show B+5 < _; omega)]; exact h.fz)
theorem Qsc (lo hi:Int)(w:World):Calls Y 153 #[U Q lo,U Q hi] w fun e w'=>e=D (.func (.func 161) #[] #[I (V ⟨w.heap.size,0,J⟩),I (V ⟨w.heap.size+1,0,J⟩)])∧w'=(w.alloc (Z #[U Q lo] 3)).alloc (Z #[U Q hi] 3):=by
 go_enter Tryz.func153,Tryz.ntmps153
 go_wp2
 go_ret
 exact ⟨rfl,rfl⟩
theorem Qr6 (lo hi:Int)(w:World):Calls Y 154 #[U Q lo,U Q hi] w fun e w'=>e=D (.func (.func 162) #[] #[I (V ⟨w.heap.size,0,J⟩),I (V ⟨w.heap.size+1,0,J⟩)])∧w'=(w.alloc (Z #[U Q lo] 3)).alloc (Z #[U Q hi] 3):=by
 go_enter Tryz.func154,Tryz.ntmps154
 go_wp2
 go_ret
 exact ⟨rfl,rfl⟩
theorem Qyz (m:Int)(w:World):Calls Y 155 #[U Q m] w fun e w'=>e=D (.func (.func 163) #[] #[I (V ⟨w.heap.size+1,0,J⟩),I (V ⟨w.heap.size,0,J⟩)])∧w'=(w.alloc (Z #[U Q m] 3)).alloc (Z #[U Q 0] 3):=by
 go_enter Tryz.func155,Tryz.ntmps155
 go_wp2
 go_ret
 exact ⟨rfl,rfl⟩
theorem Qkp (P:Program)(w:World)(a:Addr)(m:Mode)(f:Fn)(ts:Array Value)(cs:Array Value):(store a (.func f ts cs) m).run P w=stored P w a (.func f ts cs) m:=run_store P w a _ m rfl
attribute [local go_sem] Qkp
def Jbr (B:Nat):Value:=.func (.func 156) #[] #[I (V ⟨B+6,0,J⟩),I (V ⟨B+7,0,J⟩),I (V ⟨B+8,0,J⟩)]
theorem Qqb (w:World)(c:Array Value)(t:TypeId)(B i:Nat)(h:B=w.heap.size):(w.alloc (Z c t)).cell? ⟨B,i,J⟩=c[i]?:=by subst h; exact World.cell?_alloc_mark w c t _ i
theorem Qv6 (w:World)(o:Obj)(B i:Nat)(h:B < w.heap.size):(w.alloc o).cell? ⟨B,i,J⟩=w.cell? ⟨B,i,J⟩:=World.cell?_alloc_lt _ _ _ h
def Jbv (w:World):World:=((((((((w.alloc (Z #[U Q 1] 3)).alloc (Z #[U Q 255] 3)).alloc (Z #[U Q 1] 3)).alloc (Z #[U Q 4294967295] 3)).alloc (Z #[U Q 64] 3)).alloc (Z #[U Q 0] 3)).alloc (Z #[.func (.func 161) #[] #[I (V ⟨w.heap.size,0,J⟩),I (V ⟨w.heap.size+1,0,J⟩)]] 180)).alloc (Z #[.func (.func 162) #[] #[I (V ⟨w.heap.size+2,0,J⟩),I (V ⟨w.heap.size+3,0,J⟩)]] 180)).alloc (Z #[.func (.func 163) #[] #[I (V ⟨w.heap.size+5,0,J⟩),I (V ⟨w.heap.size+4,0,J⟩)]] 180)
theorem Qwz (w:World):Chk (Jbv w) w.heap.size 0∧Below w.heap.size w (Jbv w):=by
 unfold Jbv
 refine ⟨⟨?_,?_,?_,?_,?_,?_,?_,?_,?_,?_⟩,?_⟩
 case refine_11=>exact (((((((((R _ _).alloc (X _) _).alloc (by simp) _).alloc (by simp; omega) _).alloc (by simp; omega) _).alloc (by simp; omega) _).alloc (by simp; omega) _).alloc (by simp; omega) _).alloc (by simp; omega) _).alloc (by simp; omega) _
 case refine_7 =>
  repeat rw [World.frozen?_alloc_past _ _ _ (by simp only [World.size_alloc]; omega)]
  rw [World.frozen?_alloc_at _ _ _ _ (by simp only [World.size_alloc])]
 all_goals (repeat rw [Qv6 _ _ _ _ (by simp only [World.size_alloc]; omega)])
 all_goals (rw [Qqb _ _ _ _ _ (by first | rfl | (simp only [World.size_alloc]; done) | (simp only [World.size_alloc]; omega))]; rfl)
theorem Qsx (w:World):Calls Y 141 #[] w fun e w'=>e=D (Jbr w.heap.size)∧Chk w' w.heap.size 0∧Below w.heap.size w w':=by
 go_enter Tryz.func141,Tryz.ntmps141
 go_wp2_with fail
 refine (Qsc 1 255 _).mono ?_
 rintro e w1 ⟨rfl,rfl⟩
 go_wp2_with fail
 refine (Qr6 1 4294967295 _).mono ?_
 rintro e w1 ⟨rfl,rfl⟩
 go_wp2_with fail
 refine (Qyz 64 _).mono ?_
 rintro e w1 ⟨rfl,rfl⟩
 obtain ⟨w3,hw3⟩:∃ w3,w3=((((((w.alloc (Z #[U Q 1] 3)).alloc (Z #[U Q 255] 3)).alloc (Z #[U Q 1] 3)).alloc (Z #[U Q 4294967295] 3)).alloc (Z #[U Q 64] 3)).alloc (Z #[U Q 0] 3)):=⟨_,rfl⟩
 rw [← hw3]
 have HS3:Hid (w3.heap.size=w.heap.size+6):=by show w3.heap.size=_; rw [hw3]; simp
 have HW:=Qaa hw3
 clear hw3
 go_wp2
 go_ret
 have h9:=Qwz w
 unfold Jbv at h9
 rw [← HW.out] at h9
 exact ⟨by unfold Jbr; rw [← show w3.heap.size=w.heap.size+6 from HS3.out,show w.heap.size+7=w3.heap.size+1 from by have:=HS3.out; omega,show w.heap.size+8=w3.heap.size+1+1 from by have:=HS3.out; omega]; rfl,h9⟩
theorem Qyv (b:Bool)(zs:List Int):okS (b,zs)=(decide ((1:Int)≤(zs.length:Int)∧(zs.length:Int)≤255) && zs.all okN):=by
 unfold okS
 congr 1
 rw [Bool.eq_iff_iff]
 simp only [decide_eq_true_eq]
 omega
theorem Qut (sb:Bool)(a:Option Addr)(c:Nat)(zs:List Int)(B x:Nat)(w:World)(hl:zs.length≤100000)(hx:x≤100000)(h:Chk w B x)(hr:IRd w a zs) :
  Calls Y 156 #[Qof sb a zs.length c,I (V ⟨B+6,0,J⟩),I (V ⟨B+7,0,J⟩),I (V ⟨B+8,0,J⟩)] w fun e w' =>
   e=D (.bool (okS (sb,zs) && decide (x+zs.length≤64)))∧Qae (fun b=>b=B+5) w w'∧((okS (sb,zs) && decide (x+zs.length≤64))=true→Chk w' B (x+zs.length)):=by
 have hs:=h.size
 have g1:=h.f1
 have g2:=h.f2
 have g3:=h.f3
 have HH:=Qaa h
 have HR:=Qaa hr
 clear h hr
 have HO:=Qaa (Qyv sb zs)
 have hb7:B+7 < w.heap.size:=by omega
 have hb6:B+6 < w.heap.size:=by omega
 have key:∀ w1:World,Below w.heap.size w w1→∀ b':Nat,w.heap.size≤b'→(∀ i,i < 3→w1.cell? ⟨b',0+i,J⟩=V (.func (.func (if i=0 then 161 else if i=1 then 162 else 163)) #[] (if i=0 then #[I (V ⟨B,0,J⟩),I (V ⟨B+1,0,J⟩)] else if i=1 then #[I (V ⟨B+2,0,J⟩),I (V ⟨B+3,0,J⟩)] else #[I (V ⟨B+5,0,J⟩),I (V ⟨B+4,0,J⟩)]))) →
   Calls Y 157 #[Qof sb a zs.length c,E (V ⟨b',0,J⟩) 3 3] w1 fun e w'=>e=D (.bool (okS (sb,zs) && decide (x+zs.length≤64)))∧Qae (fun b=>b=B+5) w1 w'∧((okS (sb,zs) && decide (x+zs.length≤64))=true→Chk w' B (x+zs.length)):=by
  intro w1 hb1 b' hbb hc
  have hchk:Chk w1 B x:=HH.out.later hb1
  have hird:IRd w1 a zs:=HR.out.below hb1
  have hsz:=hb1.size
  refine (Qtb b' 0 3 3 sb a zs.length c (fun i=>if i=0 then 161 else if i=1 then 162 else 163) (fun i=>if i=0 then #[I (V ⟨B,0,J⟩),I (V ⟨B+1,0,J⟩)] else if i=1 then #[I (V ⟨B+2,0,J⟩),I (V ⟨B+3,0,J⟩)] else #[I (V ⟨B+5,0,J⟩),I (V ⟨B+4,0,J⟩)])
   (fun i=>if i=0 then decide ((1:Int)≤(zs.length:Int)∧(zs.length:Int)≤255) else if i=1 then zs.all okN else decide (x+zs.length≤64)) (fun i w2=>Chk w2 B (if i≤2 then x else x+zs.length)∧(i≤2→IRd w2 a zs)) (fun b=>b=B+5) w1 (by omega) (fun k hk=>by omega) (by omega) hc (fun i hi=>?_) (fun k u1 u2 hu hb=>⟨hu.1.later hb,fun h9=>(hu.2 h9).below hb⟩) ⟨hchk,fun _=>hird⟩ (fun i hi u1 _ hu=>?_)).mono ?_
  ·match i,hi with
   | 0,_=>exact Tryz.call161
   | 1,_=>exact Tryz.call162
   | 2,_=>exact Tryz.call163
  ·match i,hi with
   | 0,_ =>
    refine (Qo0 sb a zs.length c 1 255 B (B+1) u1 hu.1.l1 hu.1.m1).mono ?_
    rintro e w2 ⟨rfl,hb⟩
    exact ⟨rfl,Qae.of_below hb _,hu.1.later hb,fun _=>(hu.2 (by omega)).below hb⟩
   | 1,_ =>
    refine (Quo sb a c zs (B+2) (B+3) u1 hl hu.1.l2 hu.1.m2 (hu.2 (by omega))).mono ?_
    rintro e w2 ⟨rfl,hb⟩
    exact ⟨rfl,Qae.of_below hb _,hu.1.later hb,fun _=>(hu.2 (by omega)).below hb⟩
   | 2,_ =>
    refine (Qwq sb a zs.length c x (B+5) (B+4) u1 hl hx hu.1.ct hu.1.fz hu.1.m3 (by omega)).mono ?_
    rintro e w2 ⟨rfl,hk2,hc2,hz2⟩
    exact ⟨rfl,hk2,hu.1.keeps hk2 (fun _ h=>h) _ hc2 hz2,fun h9=>absurd h9 (by omega)⟩
  ·rintro e w2 ⟨rfl,hk,hi⟩
   have e3:Qkf (fun i=>if i=0 then decide ((1:Int)≤(zs.length:Int)∧(zs.length:Int)≤255) else if i=1 then zs.all okN else decide (x+zs.length≤64)) 3=(okS (sb,zs) && decide (x+zs.length≤64)):=by
    rw [HO.out]; simp [Qkf]
   rw [e3] at hi ⊢
   exact ⟨rfl,hk,fun h9=>(hi h9).1⟩
 have HKEY:=Qaa key
 clear key HH HR HO
 generalize hbb:(okS (sb,zs) && decide (x+zs.length≤64))=r at *
 clear hbb
 generalize hnn:zs.length=n at *
 clear hnn
 unfold Qof
 go_enter Tryz.func156,Tryz.ntmps156
 go_wp2_with fail
 refine (HKEY.out ((w.alloc (Z #[.bool sb,E a n c] 134)).alloc (Z #[.func (.func 161) #[] #[I (V ⟨B,0,J⟩),I (V ⟨B+1,0,J⟩)],.func (.func 162) #[] #[I (V ⟨B+2,0,J⟩),I (V ⟨B+3,0,J⟩)],.func (.func 163) #[] #[I (V ⟨B+5,0,J⟩),I (V ⟨B+4,0,J⟩)]] 180)) (((R _ _).alloc (X _) _).alloc (by simp) _) (w.heap.size+1) (by omega) ?_).mono ?_
 ·intro i hi
  rw [Qqb _ _ _ _ _ (by simp)]
  match i,hi with
  | 0,_=>rfl
  | 1,_=>rfl
  | 2,_=>rfl
 rintro e w2 ⟨rfl,hk,hi⟩
 have HK:=Qaa hk
 have HI:=Qaa hi
 clear hk hi HKEY
 go_wp2
 go_ret
 exact ⟨rfl,(((Qae.refl _ _).alloc _).alloc _).trans HK.out (fun _ _ h=>h),HI.out⟩
theorem Qdr {w w':World}{B e size n:Nat}{v:Value}{xs:List Value}{F:Nat→Prop} (h:w.ownsRow B e size v n xs) (hk:Qae F w w') (hF:∀ k,F k→k < B):w'.ownsRow B e size v n xs:=by
 refine ⟨h.1,?_⟩
 rcases h.2 with hh | ⟨g,cap,cur,e1,hb,hc,rest⟩
 ·exact .inl hh
 ·refine .inr ⟨g,cap,cur,e1,hb,?_,rest⟩
  rw [hk.block g (Array.getElem?_eq_some_iff.1 hc).1 (fun h9=>absurd (hF g h9) (by omega))]
  exact hc
theorem Qa7.keeps {w w':World}{B:Nat}{v:Value}{ss:List (Bool×List Int)}{F:Nat→Prop} (h:Qa7 w B v ss) (hk:Qae F w w') (hF:∀ k,F k→k < B):Qa7 w' B v ss:=by
 obtain ⟨cs,ho,hc⟩:=h
 refine ⟨cs,Qdr ho hk hF,fun i s hi=>?_⟩
 obtain ⟨h1,u,h2,h3⟩:=hc i s hi
 exact ⟨h1,u,h2,Qdr h3 hk hF⟩
theorem Qa7.base {w:World}{B B':Nat}{v:Value}{ss:List (Bool×List Int)} (h:Qa7 w B v ss) (hB:B'≤B):Qa7 w B' v ss:=by
 obtain ⟨cs,ho,hc⟩:=h
 refine ⟨cs,Qan ho hB,fun i s hi=>?_⟩
 obtain ⟨h1,u,h2,h3⟩:=hc i s hi
 exact ⟨h1,u,h2,Qan h3 hB⟩
theorem Chk.under {w w':World}{B x:Nat} (h:Chk w B x) (hb:Below (B+9) w w'):Chk w' B x:=by
 have key:∀ k,k≤8→w'.cell? ⟨B+k,0,J⟩=w.cell? ⟨B+k,0,J⟩:=fun k hk=>hb.cell (p:=⟨B+k,0,J⟩) (by show B+k < B+9; omega)
 exact ⟨by rw [← h.l1]; exact key 0 (by omega),by rw [← h.m1]; exact key 1 (by omega),by rw [← h.l2]; exact key 2 (by omega),by rw [← h.m2]; exact key 3 (by omega),by rw [← h.m3]; exact key 4 (by omega),by rw [← h.ct]; exact key 5 (by omega),by rw [hb.frozen (p:=⟨B+5,0,J⟩) (by show B+5 < B+9; omega)]; exact h.fz,
  by rw [← h.f1]; exact key 6 (by omega),by rw [← h.f2]; exact key 7 (by omega),by rw [← h.f3]; exact key 8 (by omega)⟩
theorem Qtd {a b:List (Bool×List Int)}(h:Qd3 a=false):Qd3 (a++b)=false:=by
 unfold Qd3 at h ⊢
 rw [List.all_append]
 rcases (Bool.and_eq_false_iff).1 h with h | h
 ·rw [h]; rfl
 ·have h2:sumP a≤sumP (a++b):=by
   have:=Qm6 (a++b) a.length
   rwa [List.take_left] at this
  rw [decide_eq_false (by have:=of_decide_eq_false h; omega),Bool.and_false]
theorem Qi3 (f:Nat→Nat)(len:Nat):∀ (k i:Nat) (acc:List (Bool×List Int)),Qd3 acc=false→Qdj f len k i acc=J
 | 0,i,acc,h=>by rw [Qdj]; unfold fin; rw [h]; rfl
 | k+1,i,acc,h=>by
  rw [Qdj]
  by_cases hi:i < len
  ·rw [if_pos hi]
   by_cases ho:Qja f len i=true
   ·rw [if_pos ho]; exact Qi3 f len k _ _ (Qtd h)
   ·rw [if_neg ho]
  ·rw [if_neg hi]; unfold fin; rw [h]; rfl
theorem Qoj {f:Nat→Nat}{len i:Nat}{acc:List (Bool×List Int)} (h:Qd3 acc=false):Qa3 f len i acc=J:=Qi3 f len _ i acc h
theorem Qsf (acc:List (Bool×List Int))(s:Bool×List Int)(h:acc.all okS=true):Qd3 (acc++[s])=(okS s && decide (sumP acc+s.2.length≤64)):=by
 unfold Qd3
 rw [List.all_append,h,Qf9]
 simp
section
attribute [local go_sem ↓] Qi4
theorem Qnm (b off len cap:Nat)(f:Nat→Nat)(w:World)(hl:len≤10000)(hlc:len≤cap)(hf:∀ j,j < len→f j < 256)(hcell:∀ j,j < len→w.cell? ⟨b,off+j,J⟩=V (U .u8 (f j:Int))) :
  Calls Y 122 #[E (V ⟨b,off,J⟩) len cap] w fun e w'=>Qhi w w' (Qa3 f len 0 []) e∧Below w.heap.size w w':=by
 have HC:=Qaa hcell
 have HF:=Qaa hf
 clear hcell hf
 go_enter Tryz.func122,Tryz.ntmps122
 go_wp2_with fail
 refine (Qsx _).mono ?_
 rintro e w1 ⟨rfl,hk1,hb1⟩
 unfold Jbr
 have HK1:=Qaa hk1
 have HB1:=Qaa hb1
 clear hk1 hb1
 go_wp2
 go_loopw [0,5] (fun s v wq=>∃ (i:Nat) (acc:List (Bool×List Int)) (a':Option Addr) (c' r x:Nat),s=E a' r c'∧r=len - i∧i≤len∧r≤c'∧x≤64∧Hid (x=sumP acc)∧Hid (acc.all okS=true)∧Hid (i < len→a'=V ⟨b,off+i,J⟩)∧Hid (Qa7 wq (w.heap.size+9) v acc)∧Hid (Below w.heap.size w wq)∧Hid (Chk wq w.heap.size x)∧Hid (Qa3 f len 0 []=Qa3 f len i acc)∧acc.length≤i) (fun s _ _=>sliceLen s)
 case atStart=>exact ⟨0,[],_,cap,len,0,rfl,rfl,Nat.zero_le _,hlc,by omega,rfl,rfl,fun _=>rfl,Qa7.nil _ _,HB1,HK1,rfl,X _⟩
 case round =>
  clear HK1 HB1
  obtain ⟨i,acc,a',c',r,x,rfl,hr,hi,hrc,hx,HX,HAL,HA,HO,HB,HCH,HE,hal⟩:=hrel
  by_cases hlt:i < len
  ·have ha:=HA.out hlt
   subst ha
   have hr0:(0:Int) < (r:Int):=by omega
   have hcw:Hid (∀ j,j < len→wr.cell? ⟨b,off+j,J⟩=V (U .u8 (f j:Int))):=fun j hj=>by
    rw [HB.out.cell (p:=⟨b,off+j,J⟩) (World.block_lt_of_cell? w _ (HC.out j hj))]
    exact HC.out j hj
   have HRR:=Qaa hr
   have hrl:r≤len:=by omega
   clear hr HA
   cases hk:Qja f len i with
   | false =>
    have HN:Hid (Qa3 f len 0 []=J):=by show Qa3 f len 0 []=J; rw [HE.out,Qib hlt hk]
    have HK:=Qaa hk
    clear hk
    go_wp2_with fail
    rw [HRR.out]
    refine (Qrc b off len i c' f wr hlt (by rw [← HRR.out]; exact hrc) (by omega) HF.out hcw.out HK.out).mono ?_
    rintro e w2 ⟨rfl,hb⟩
    have HB1:Hid (Below w.heap.size w w2):=HB.out.trans (hb.mono HB.out.size)
    clear hb
    go_wp2
    go_ret2
    exact ⟨by rw [HN.out]; rfl,HB1.out.alloc HB1.out.size _⟩
   | true =>
    have HK:=Qaa hk
    clear hk
    have HE1:Hid (Qa3 f len 0 []=Qa3 f len (i+2+4 * f (i+1)) (acc++[Qfd f i])):=by show Qa3 f len 0 []=_; rw [HE.out,Qia hlt HK.out]
    have HL2:Hid (i+2+4 * f (i+1)≤len):=(Qqh HK.out).2.2
    have hn256:=HF.out (i+1) (by have:=HL2.out; omega)
    have HP:=Qaa (Qup b off len i c' f wr (by rw [← HRR.out]; exact hrc) (by omega) HF.out hcw.out HK.out)
    rw [← HRR.out] at HP
    have HSN:=Qaa (Qsf acc (Qfd f i) HAL.out)
    have HSL:Hid ((Qfd f i).2.length=f (i+1)):=Qcf _ _ _
    have HSS:=Qaa (Qf9 acc (Qfd f i))
    have HSA:Hid ((acc++[Qfd f i]).all okS=(acc.all okS && okS (Qfd f i))):=by show List.all _ _=_; simp
    generalize hni:i+2+4 * f (i+1)=i2 at *
    have HNI:Hid (i < i2):=by show i < i2; omega
    generalize f (i+1)=n at *
    generalize Qfd f i=sg at *
    obtain ⟨b1,zs⟩:=sg
    clear hni HE HC
    simp only at HSL HSS HP
    generalize hr2:len - i2=r2 at *
    have HR2:=Qaa hr2
    clear hr2
    go_wp2_with fail
    refine HP.out.mono ?_
    rintro e w2 ⟨g,a2,c2,rfl,hc2,ha2,hog,hb⟩
    have HB2:Hid (Below w.heap.size w w2):=HB.out.trans (hb.mono HB.out.size)
    have HO2:=Qaa (HO.out.later hb)
    have HCH2:=Qaa (HCH.out.later hb)
    have HOG:Hid (w2.ownsRow (w.heap.size+9) 3 1 (E (V ⟨g,0,J⟩) n n) n (Qbi zs)):=Qan hog (by have:=HCH.out.size; omega)
    have HC2:=Qaa hc2
    have HA2:=Qaa ha2
    clear hb hog hc2 ha2 HP HO HB HCH hcw
    have HCK:Hid (∀ w3:World,Below w2.heap.size w2 w3→Calls Y 156 #[Qof b1 (V ⟨g,0,J⟩) n n,I (V ⟨w.heap.size+6,0,J⟩),I (V ⟨w.heap.size+7,0,J⟩),I (V ⟨w.heap.size+8,0,J⟩)] w3 fun e w' =>
     e=D (.bool (okS (b1,zs) && decide (x+n≤64)))∧Qae (fun b=>b=w.heap.size+5) w3 w'∧((okS (b1,zs) && decide (x+n≤64))=true→Chk w' w.heap.size (x+n))):=fun w3 hb3=>by
     have hlz:=HSL.out
     have h9:=Qs2 (w:=w3) (zs:=zs) (by rw [hlz]; exact Qaq HOG.out hb3)
     obtain ⟨a9,c9,e9,hr9⟩:=h9
     simp only [Value.slice.injEq] at e9
     obtain ⟨e9,_,_⟩:=e9
     rw [← e9] at hr9
     have:=Qut b1 (V ⟨g,0,J⟩) n zs w.heap.size x w3 (by omega) (by omega) (HCH2.out.later hb3) hr9
     rw [hlz] at this
     exact this
    have hz2:g < w2.heap.size:=by
     have:=Qb1 HOG.out g rfl
     exact this.2
    go_wp2_with fail
    refine (HCK.out (w2.alloc (Z #[.bool b1,E (V ⟨g,0,J⟩) n n] 134)) ((R _ _).alloc (X _) _)).mono ?_
    rintro e w3 ⟨rfl,hk3,hi3⟩
    have hs9:=HCH2.out.size
    have q0:w3.cell? ⟨w2.heap.size,0,J⟩=V (.bool b1):=by rw [hk3.cell ⟨w2.heap.size,0,J⟩ (by simp) (by show ¬ (w2.heap.size=_); omega)]; simp [go_sem]
    have q1:w3.cell? ⟨w2.heap.size,1,J⟩=V (E (V ⟨g,0,J⟩) n n):=by rw [hk3.cell ⟨w2.heap.size,1,J⟩ (by simp) (by show ¬ (w2.heap.size=_); omega)]; simp [go_sem]
    have hz3:w2.heap.size < w3.heap.size:=by have:=hk3.size; simp at this; omega
    have HB3:Hid (Below w.heap.size w w3):=(HB2.out.alloc HB2.out.size _).trans (hk3.below w.heap.size (by simp; omega) (fun b h=>by omega))
    have HO3:Hid (Qa7 w3 (w.heap.size+9) _ acc):=(HO2.out.later ((R _ _).alloc (X _) _)).keeps hk3 (fun k h=>by omega)
    have HOG3:Hid (w3.ownsRow (w.heap.size+9) 3 1 (E (V ⟨g,0,J⟩) n n) n (Qbi zs)):=Qdr (HOG.out.alloc _) hk3 (fun k h=>by omega)
    have HI3:=Qaa hi3
    clear hk3 hi3 HCK HO2 HOG HCH2 HB2
    cases hr:(okS (b1,zs) && decide (x+n≤64)) with
    | false =>
     have HN:Hid (Qa3 f len 0 []=J):=by
      show Qa3 f len 0 []=J
      rw [HE1.out]
      refine Qoj ?_
      rw [HSN.out,← HX.out,← hr,← HSL.out]
     clear hr
     go_wp2
     go_ret2
     exact ⟨by rw [HN.out]; rfl,HB3.out⟩
    | true =>
     have HCH4:=Qaa (HI3.out hr)
     obtain ⟨t1,t2⟩:=(Bool.and_eq_true _ _).mp hr
     have HOK:=Qaa t1
     have hx2:x+n≤64:=of_decide_eq_true t2
     clear hr t1 t2 HI3
     obtain ⟨v4,w4,hr4,ho4,hb4⟩:=HO3.out.snoc (b:=b1) (zs:=zs) (u:=E (V ⟨g,0,J⟩) n n) (by rw [HSL.out]; exact HOG3.out) rfl (by omega) (by omega) w3.heap.size rfl
     have HR4:=Qaa hr4
     have HO4:=Qaa ho4
     have HB4:Hid (Below w.heap.size w w4):=HB3.out.trans (hb4.mono (by omega))
     have HCH5:=Qaa (HCH4.out.under hb4)
     clear hr4 ho4 hb4 HO3 HOG3 HCH4 HB3
     go_wp2_with fail
     refine Qd0 _ _ _ (E (V ⟨w3.heap.size,0,J⟩) 1 1) v4 (w':=w4) (by rfl) (by rfl) (by exact HR4.out) ?_
     go_wp2
     exact ⟨⟨i2,acc++[(b1,zs)],a2,c2,r2,x+n,rfl,HR2.out.symm,HL2.out,HC2.out,hx2,by show x+n=_; rw [HSS.out,HX.out,HSL.out],by show List.all _ _=true; rw [HSA.out,HAL.out,HOK.out]; rfl,HA2,HO4,HB4,HCH5,HE1,by have:=HNI.out; simp; omega⟩,by have:=HNI.out; have:=HRR.out; have:=HR2.out; have:=HL2.out; simp [sliceLen]; omega⟩
  ·have HN:Hid (Qa3 f len 0 []=V acc):=by
    show Qa3 f len 0 []=V acc
    rw [HE.out,Qew hlt]
    unfold fin Qd3
    rw [HAL.out,← HX.out,decide_eq_true hx]; rfl
   have hr0:r=0:=by omega
   subst hr0
   go_wp2
   go_ret2
   exact ⟨by rw [HN.out]; exact ⟨_,rfl,HO.out.base (by omega)⟩,HB.out⟩
end
theorem Qmk (a:Option Addr)(cap:Nat)(f:Nat→Nat)(w:World) :
  Calls Y 122 #[E a 0 cap] w fun e w'=>Qhi w w' (Qa3 f 0 0 []) e∧Below w.heap.size w w':=by
 have HN:Hid (Qa3 f 0 0 []=V []):=Qew (by omega)
 go_enter Tryz.func122,Tryz.ntmps122
 go_wp2_with fail
 refine (Qsx _).mono ?_
 rintro e w1 ⟨rfl,hk1,hb1⟩
 unfold Jbr
 have HB1:=Qaa hb1
 clear hk1 hb1
 go_wp2
 go_loop [0,5] (fun s v=>s=E a 0 cap∧v=E J 0 0) (fun s _=>sliceLen s)
 case atStart=>exact ⟨rfl,rfl⟩
 case round =>
  obtain ⟨rfl,rfl⟩:=hrel
  go_wp2
  go_ret2
  exact ⟨by rw [HN.out]; exact ⟨_,rfl,Qa7.nil _ _⟩,HB1.out⟩
theorem Qot (a:Option Addr)(len cap:Nat)(f:Nat→Nat)(w:World)(hl:len≤10000)(hlc:len≤cap)(hf:∀ j,j < len→f j < 256)(h:Rw w a len f) :
  Calls Y 122 #[E a len cap] w fun e w'=>Qhi w w' (Qa3 f len 0 []) e∧Below w.heap.size w w':=by
 by_cases h0:len=0
 ·subst h0; exact Qmk a cap f w
 ·obtain ⟨b,off,rfl,hc⟩:=h.2 (by omega)
  exact Qnm b off len cap f w hl hlc hf hc
def Qc2 (fl ty:Nat):Bool:=!decide (fl / 64 * 64≠Qh6 ty∨fl / 32 % 2=1∧ty < 7)
theorem Qwp (ty:Nat):Qh6 ty=Qed ty:=rfl
theorem Qqr (x y:Nat)(hx:x < 256)(hy:y < 256):bits .and Q (x:Int) (y:Int)=((x &&& y:Nat):Int) :=
 (bits_nat Q 8 (by decide) (fun n h0 h1=>by rw [IntKind.wrap_i64]; simp only [Int.reducePow] at h1; omega) _ _ (by simpa using hx) (by simpa using hy)).1
theorem Jb8 (x:Nat)(h:x < 256):decide (x &&& 192=192)=decide (x / 64 * 64=192):=by
 have key:∀ y:Fin 256,decide ((y:Nat) &&& 192=192)=decide ((y:Nat) / 64 * 64=192):=by decide +kernel
 exact key ⟨x,h⟩
theorem Jb2 (x t:Nat)(h:x < 256)(ht:t=64∨t=128):decide (x &&& 224=t)=decide (x / 64 * 64=t∧x / 32 % 2=0):=by
 have k1:∀ y:Fin 256,decide ((y:Nat) &&& 224=64)=decide ((y:Nat) / 64 * 64=64∧(y:Nat) / 32 % 2=0):=by decide +kernel
 have k2:∀ y:Fin 256,decide ((y:Nat) &&& 224=128)=decide ((y:Nat) / 64 * 64=128∧(y:Nat) / 32 % 2=0):=by decide +kernel
 rcases ht with rfl | rfl
 ·exact k1 ⟨x,h⟩
 ·exact k2 ⟨x,h⟩
theorem Qm3 (fl ty:Nat)(a1:Option Addr)(n1 c1:Nat)(a2:Option Addr)(n2 c2:Nat)(w:World)(hS:Qfa w)(hf:fl < 256)(h1:1≤ty)(h8:ty≤8) :
  Calls Y 95 #[Qcb (fl:Int) (ty:Int) a1 n1 c1 a2 n2 c2] w fun e w'=>e=D (.bool (Qc2 fl ty))∧Below w.heap.size w w':=by
 obtain ⟨c0,_,_,_⟩:=hS.at ty h1 h8
 have hp:=hS.pos
 have k0:(0:Int)≤(ty:Int):=Int.natCast_nonneg _
 have k9:(ty:Int) < 9:=by omega
 have hv:Qed ty=64∨Qed ty=128∨Qed ty=192:=by unfold Qed; repeat (first | omega | split)
 have h192:Qed ty=192↔(ty=7∨ty=8):=by unfold Qed; repeat (first | omega | split)
 unfold Qc2
 rw [Qwp]
 unfold Qcb
 clear hS
 by_cases h9:Qed ty=192
 ·rw [h9] at c0
  have HD:Hid ((!decide (fl / 64 * 64≠Qed ty∨fl / 32 % 2=1∧ty < 7))=((bits .and Q (fl:Int) 192) == 192)):=by
   show (!decide _)=_
   have:=Qqr fl 192 hf (by decide)
   have e:bits .and Q (fl:Int) 192=((fl &&& 192:Nat):Int):=this
   rw [e,h9]
   have e2:=Jb8 fl hf
   have e3:((((fl &&& 192:Nat):Int)) == 192)=decide (fl &&& 192=192):=by rw [Bool.eq_iff_iff]; simp only [beq_iff_eq,decide_eq_true_eq]; omega
   rw [e3,e2,Bool.eq_iff_iff]
   simp only [Bool.not_eq_true',decide_eq_false_iff_not,decide_eq_true_eq]
   have:=h192.1 h9
   omega
  clear hv h192
  go_enter Tryz.func95,Tryz.ntmps95
  go_wp2
  go_ret
  exact ⟨Qa8 HD.out.symm,(R _ _).alloc (X _) _⟩
 ·have hn:¬ (ty=7∨ty=8):=fun h=>h9 (h192.2 h)
  have HD:Hid ((!decide (fl / 64 * 64≠Qed ty∨fl / 32 % 2=1∧ty < 7))=((bits .and Q (fl:Int) 224) == (Qed ty:Int))):=by
   show (!decide _)=_
   have:=Qqr fl 224 hf (by decide)
   have e:bits .and Q (fl:Int) 224=((fl &&& 224:Nat):Int):=this
   rw [e]
   have e2:=Jb2 fl (Qed ty) hf (by omega)
   have e3:((((fl &&& 224:Nat):Int)) == (Qed ty:Int))=decide (fl &&& 224=Qed ty):=by rw [Bool.eq_iff_iff]; simp only [beq_iff_eq,decide_eq_true_eq]; omega
   rw [e3,e2,Bool.eq_iff_iff]
   simp only [Bool.not_eq_true',decide_eq_false_iff_not,decide_eq_true_eq]
   omega
  have f9:((Qed ty:Int) == 192)=false:=by simp; omega
  rw [HD.out]
  clear hv h192 h9 HD
  generalize Qed ty=v at *
  go_enter Tryz.func95,Tryz.ntmps95
  go_wp2
  go_ret
  exact ⟨rfl,(R _ _).alloc (X _) _⟩
def Qh4 (w w':World)(r:Option (List (Bool×List Int)))(e:Ending):Prop :=
 match r with
 | none=>Qbn w w' 11 [] e
 | some ss=>∃ v,e=D v∧Qa7 w' w.heap.size v ss∧Below w.heap.size w w'
theorem Qnb (fl ty:Int)(a1:Option Addr)(c1:Nat)(a2:Option Addr)(n2 c2:Nat)(d:List Nat)(w:World)(hl:d.length≤10000)(hc:d.length≤c1)(h:BRd w a1 d) :
  Calls Y 98 #[Qcb fl ty a1 d.length c1 a2 n2 c2] w fun e w'=>Qh4 w w' (Qa3 (fun q=>d.getD q 0) d.length 0 []) e:=by
 have hb:∀ o,Below w.heap.size w (w.alloc o):=fun o=>(R _ _).alloc (X _) _
 have K:Hid (∀ o,Calls Y 122 #[E a1 d.length c1] (w.alloc o) fun e w'=>Qhi (w.alloc o) w' (Qa3 (fun q=>d.getD q 0) d.length 0 []) e∧Below (w.alloc o).heap.size (w.alloc o) w'):=fun o=>Qot a1 d.length c1 (fun q=>d.getD q 0) (w.alloc o) hl hc (fun j hj=>by
  rw [List.getD_eq_getElem?_getD,List.getElem?_eq_getElem hj]
  exact h.2 _ (List.getElem_mem hj)) (h.below (hb o)).1
 have KT:Hid (∀ w1,Below w.heap.size w w1→Calls Y 67 #[U Q 11,E J 0 0] w1 fun e w'=>Qbn w w' 11 [] e):=fun w1 hb=>Qgk 11 w w1 hb
 have HB:=Qaa hb
 clear h hb
 unfold Qcb
 generalize Qa3 (fun q=>d.getD q 0) d.length 0 []=r at *
 generalize d.length=n at *
 cases r with
 | none =>
  unfold Qh4
  unfold Qhi at K
  unfold Qbn at KT ⊢
  unfold Qdp at KT ⊢
  go_enter Tryz.func98,Tryz.ntmps98
  go_wp2_with fail
  refine (K.out _).mono ?_
  rintro e w1 ⟨he,hb1⟩
  obtain rfl:=he
  go_wp2_with fail
  refine (KT.out _ ((HB.out _).trans (hb1.mono (by simp)))).mono ?_
  rintro e w2 ⟨a9,c9,rfl,ho,hb2⟩
  go_wp2
  exact ⟨rfl,a9,c9,rfl,ho,hb2⟩
 | some ss =>
  unfold Qh4
  unfold Qhi at K
  clear KT
  go_enter Tryz.func98,Tryz.ntmps98
  go_wp2_with fail
  refine (K.out _).mono ?_
  rintro e w1 ⟨⟨v,he,ho⟩,hb1⟩
  obtain rfl:=he
  go_wp2
  go_ret
  refine ⟨v,rfl,?_,(HB.out _).trans (hb1.mono (by simp))⟩
  exact ho.base (by simp)
