import Derived.Test.YtdojlejehjbliaaGreatDoorPA8
import Derived.Laws.EntriesVeiled
namespace Go.Proofs.YtdojlejehjbliaaGreatDoor
set_option maxHeartbeats 4000000
open _root_.Nat renaming le_refl → I
open _root_.Option renaming none → J,some → Z
open _root_.Go.Value renaming bool → V,pointer → U,int → E,slice → M
open _root_.Go.World renaming block_lt_of_cell? → Y
open _root_.Go.Proofs.Tryz renaming prog → D
open _root_.Go.IntKind renaming i64 → R
open _root_.Go.Ending renaming returned → T
open Go.RowKit
set_option maxRecDepth 100000
theorem Qtw {w:World}{X:Nat}{c:Cp} (h:Qeg w X c) (ll:Bool) (lt:Int):Qeg ((w.setCell ⟨X,7,J⟩ (V ll)).setCell ⟨X,8,J⟩ (E R lt)) X { c with ll:=ll,lt:=lt }:=by
 obtain ⟨x0,x1,x2,x3,x4,x5,x6,x7,x8⟩:=h.cells
 have k:∀ j v,w.cell? ⟨X,j,J⟩=Z v→((w.setCell ⟨X,7,J⟩ (V ll)).setCell ⟨X,8,J⟩ (E R lt)).cell? ⟨X,j,J⟩=Z (if 8=j then E R lt else if 7=j then V ll else v):=fun j v h=>Qdh _ X 8 _ j _ (Qdh _ X 7 _ j _ h)
 exact ⟨⟨k 0 _ x0,k 1 _ x1,k 2 _ x2,k 3 _ x3,k 4 _ x4,k 5 _ x5,k 6 _ x6,k 7 _ x7,k 8 _ x8⟩,fun j=>by rw [World.frozen?_setCell,World.frozen?_setCell]; exact h.free j⟩
theorem Jae {w:World}{X:Nat}{c:Cp} (h:Qeg w X c) (lt:Int):Qeg (w.setCell ⟨X,8,J⟩ (E R lt)) X { c with lt:=lt }:=by
 obtain ⟨x0,x1,x2,x3,x4,x5,x6,x7,x8⟩:=h.cells
 have k:∀ j v,w.cell? ⟨X,j,J⟩=Z v→(w.setCell ⟨X,8,J⟩ (E R lt)).cell? ⟨X,j,J⟩=Z (if 8=j then E R lt else v):=fun j v h=>Qdh _ X 8 _ j _ h
 exact ⟨⟨k 0 _ x0,k 1 _ x1,k 2 _ x2,k 3 _ x3,k 4 _ x4,k 5 _ x5,k 6 _ x6,k 7 _ x7,k 8 _ x8⟩,fun j=>by rw [World.frozen?_setCell]; exact h.free j⟩
theorem Qrm {u:List Nat}(h:u.length=7):Qcn (u.drop 4)=Qr1 (Z u):=by
 match u,h with
 | [a0,a1,a2,a3,a4,a5,a6],_ =>
  simp only [Qr1,List.drop_succ_cons,List.drop_zero,Qcn,List.foldl_cons,List.foldl_nil,List.getD_cons_succ,List.getD_cons_zero]
  omega
theorem Qyn (X:Nat)(a:Option Addr)(n cap:Nat)(w:World)(h:n % 7≠0)(hl:n≤10000):Calls D 89 #[U (Z ⟨X,0,J⟩),M a n cap] w fun e w'=>e=T (V false)∧w'=w:=by
 have hm:((n:Int) % 7 != 0)=true:=by
  simp
  omega
 clear h
 go_enter Tryz.func89,Tryz.ntmps89
 go_wp2
 go_ret
 exact ⟨rfl,rfl⟩
theorem Qwg (X:Nat)(c:Cp)(a:Option Addr)(cap:Nat)(bs:List Nat)(w:World)(hx:Qeg w X c)(hr:BRd w a bs)(hne:∀ x,a=Z x→0 < bs.length→x.block≠X)(hl:bs.length≤10000)(hcap:bs.length≤cap)(h:bs.length % 7=0) :
  Calls D 89 #[U (Z ⟨X,0,J⟩),M a bs.length cap] w fun e w'=>Qlr X (Z (Ql4 bs c)) e w'∧Qae (fun b=>b=X) w w':=by
 have HF:=Qaa (Qqa X a cap bs 7 w (by omega) (by omega) hl hcap hr hne)
 have HP:Hid (∀ ll lt,ll=(Qf4 7 bs).isSome→lt=(Qr1 (Qf4 7 bs):Int)→({ c with ll:=ll,lt:=lt } : Cp)=Ql4 bs c):=fun ll lt h1 h2=>by
  subst h1 h2
  rfl
 have HX:=Qaa hx
 have hXs:=hx.size
 obtain ⟨x0,x1,x2,x3,x4,x5,x6,x7,x8⟩:=hx.cells
 have f7:=hx.free 7
 have f8:=hx.free 8
 generalize Ql4 bs c=pc at *
 generalize Qf4 7 bs=fu at *
 have hmi:((bs.length:Int) % 7 != 0)=false:=by simp; omega
 clear hne hr hx h
 generalize bs.length=n at *
 obtain ⟨four,as4,gr,rs,tm,fam,fwd,ll,lt⟩:=c
 simp only at *
 go_enter Tryz.func89,Tryz.ntmps89
 go_wp2_with fail
 refine HF.out.mono ?_
 rintro e w1 ⟨hu,rfl⟩
 have HK:=Qaa (((Qae.refl (fun b=>b=X) w1).setCell X 7 (V fu.isSome) (.inl rfl)).setCell X 8 (E R 0) (.inl rfl))
 have HB:=Qaa (Qtw HX.out fu.isSome 0)
 cases fu with
 | none =>
  obtain rfl:e=_:=hu
  have HQ:=Qaa (HP.out false 0 rfl rfl)
  go_wp2
  go_ret
  refine ⟨Qf2 rfl ?_,HK.out⟩
  rw [← HQ.out]; exact HB.out
 | some u =>
  obtain ⟨b2,o2,k2,rfl,hb2,hk2,hu7,hu256,hcu⟩:=hu
  have HQ:=Qaa (HP.out true (Qr1 (Z u):Int) rfl rfl)
  have HN:Hid (Calls D 118 #[M (Z ⟨b2,o2+4,J⟩) 3 (k2 - 4)] ((w1.setCell ⟨X,7,J⟩ (V true)).setCell ⟨X,8,J⟩ (E R 0)) fun e w'=>e=T (E R (Qcn (u.drop 4):Int))∧w'=(w1.setCell ⟨X,7,J⟩ (V true)).setCell ⟨X,8,J⟩ (E R 0)) :=
   Qju b2 (o2+4) 3 (k2 - 4) (u.drop 4) _ (by rw [List.length_drop]; omega) (by omega) (fun x hx=>hu256 x (List.mem_of_mem_drop hx)) (fun i hi=>by
    have h9:=hcu (4+i) (by omega)
    rw [World.cell?_setCell_other _ _ _ _ (by intro e9; injection e9 with e2 _ _; exact hb2 e2.symm),World.cell?_setCell_other _ _ _ _ (by intro e9; injection e9 with e2 _ _; exact hb2 e2.symm),Nat.add_assoc,h9,List.getD_eq_getElem?_getD,List.getD_eq_getElem?_getD,List.getElem?_drop])
  rw [Qrm hu7] at HN
  have hk4:¬ k2=4:=by omega
  have hk7:(7:Int)≤(k2:Int):=by omega
  rw [show (Z u).isSome=true from rfl] at HB HK
  have HB3:=Qaa (Jae HB.out (Qr1 (Z u):Int))
  generalize Qr1 (Z u)=L at *
  clear hu256 hcu hu7
  go_wp2_with fail
  refine HN.out.mono ?_
  rintro e w2 ⟨rfl,hw2⟩
  rw [← hw2] at HB3
  have HK2:Hid (Qae (fun b=>b=X) w1 w2):=by rw [hw2]; exact HK.out
  have HB2:Hid (Qeg w2 X { four:=four,as4:=as4,gr:=gr,rs:=rs,tm:=tm,fam:=fam,fwd:=fwd,ll:=true,lt:=0 }):=by rw [hw2]; exact HB.out
  clear hw2 x0 x1 x2 x3 x4 x5 x6 x7 x8 f7 f8
  obtain ⟨x0,x1,x2,x3,x4,x5,x6,x7,x8⟩:=HB2.out.cells
  have f8:=HB2.out.free 8
  have hXs2:=HB2.out.size
  simp only at x0 x1 x2 x3 x4 x5 x6 x7 x8
  go_wp2
  go_ret
  refine ⟨Qf2 rfl ?_,HK2.out.setCell X 8 _ (.inl rfl)⟩
  rw [← HQ.out]; exact HB3.out
theorem Qy6 (X:Nat)(c:Cp)(a:Option Addr)(cap:Nat)(bs:List Nat)(w:World)(hx:Qeg w X c)(hr:BRd w a bs)(hne:∀ x,a=Z x→0 < bs.length→x.block≠X)(hl:bs.length≤10000)(hcap:bs.length≤cap) :
  Calls D 89 #[U (Z ⟨X,0,J⟩),M a bs.length cap] w fun e w'=>Qlr X (Qa1 71 bs c) e w'∧Qae (fun b=>b=X) w w':=by
 have e71:Qa1 71 bs c=if bs.length % 7=0 then Z (Ql4 bs c) else J:=by unfold Qa1; rw [if_neg (by omega),if_neg (by omega),if_pos rfl]
 rw [e71]
 by_cases h:bs.length % 7=0
 ·rw [if_pos h]; exact Qwg X c a cap bs w hx hr hne hl hcap h
 ·rw [if_neg h]
  refine (Qyn X a bs.length cap w h hl).mono fun e w' ⟨h1,h2⟩=>⟨?_,by rw [h2]; exact Qae.refl _ _⟩
  rw [h1]; rfl
theorem Qpc {X:Nat}{r:Option Cp}{e:Ending}{w:World} (h:Qlr X r e w):∃ z:Bool,e=T (V z)∧Qlr X r (T (V z)) w:=by
 cases r with
 | none=>exact ⟨false,h,rfl⟩
 | some c=>exact ⟨true,h.1,rfl,h.2⟩
theorem Qte (X P:Nat)(c:Cp)(k:Nat)(a:Option Addr)(cap:Nat)(bs:List Nat)(w:World)(hp:w.cell? ⟨P,0,J⟩=Z (U (Z ⟨X,0,J⟩)))(hx:Qeg w X c)(hr:BRd w a bs)(hne:∀ x,a=Z x→0 < bs.length→x.block≠X)(hl:bs.length≤10000)(hcap:bs.length≤cap) :
  Calls D 86 #[E R (k:Int),M a bs.length cap,U (Z ⟨P,0,J⟩)] w fun e w'=>Qlr X (Qa1 k bs c) e w'∧Qae (fun b=>b=X) w w':=by
 have hP:=Y w _ hp
 simp only at hP
 have H65:=Qaa (Qtj X c a cap bs w hx hr)
 have H64:=Qaa (Qyt X c a cap bs w hx hr hne hl hcap)
 have H71:=Qaa (Qy6 X c a cap bs w hx hr hne hl hcap)
 have HE:Hid (¬ k=65→¬ k=64→¬ k=71→Qa1 k bs c=Z c):=fun h1 h2 h3=>by show _=_; unfold Qa1; rw [if_neg h1,if_neg h2,if_neg h3]
 have HX:=Qaa hx
 clear hx hr hne
 by_cases h65:k=65
 ·subst h65
  generalize Qa1 65 bs c=ro at *
  generalize bs.length=n at *
  clear H64 H71 HE
  go_enter Tryz.func86,Tryz.ntmps86
  go_wp2_with fail
  refine H65.out.mono ?_
  rintro e w1 ⟨ht,hk⟩
  obtain ⟨z,rfl,ht⟩:=Qpc ht
  have HT:=Qaa ht
  have HK:=Qaa hk
  clear ht hk
  go_wp2
  go_ret
  exact ⟨HT.out,HK.out⟩
 ·by_cases h64:k=64
  ·subst h64
   generalize Qa1 64 bs c=ro at *
   generalize bs.length=n at *
   clear H65 H71 HE
   go_enter Tryz.func86,Tryz.ntmps86
   go_wp2_with fail
   refine H64.out.mono ?_
   rintro e w1 ⟨ht,hk⟩
   obtain ⟨z,rfl,ht⟩:=Qpc ht
   have HT:=Qaa ht
   have HK:=Qaa hk
   clear ht hk
   go_wp2
   go_ret
   exact ⟨HT.out,HK.out⟩
  ·by_cases h71:k=71
   ·subst h71
    generalize Qa1 71 bs c=ro at *
    generalize bs.length=n at *
    clear H65 H64 HE
    go_enter Tryz.func86,Tryz.ntmps86
    go_wp2_with fail
    refine H71.out.mono ?_
    rintro e w1 ⟨ht,hk⟩
    obtain ⟨z,rfl,ht⟩:=Qpc ht
    have HT:=Qaa ht
    have HK:=Qaa hk
    clear ht hk
    go_wp2
    go_ret
    exact ⟨HT.out,HK.out⟩
   ·have HE2:=Qaa (HE.out h65 h64 h71)
    generalize Qa1 k bs c=ro at *
    generalize bs.length=n at *
    have i65:((k:Int) == 65)=false:=by simp; omega
    have i64:((k:Int) == 64)=false:=by simp; omega
    have i71:((k:Int) == 71)=false:=by simp; omega
    clear H65 H64 H71 HE h65 h64 h71
    go_enter Tryz.func86,Tryz.ntmps86
    go_wp2
    go_ret
    exact ⟨Qf2 HE2.out HX.out,Qae.refl _ _⟩
def Qod (Inv:Cp→World→Prop)(r:Option Cp)(e:Ending)(w:World):Prop:=match r with
  | none=>e=T (V false)
  | some c=>e=T (V true)∧Inv c w
theorem Qqx (f:Nat→List Nat→Cp→Option Cp)(K:Nat)(cs:Array Value)(Inv:Cp→World→Prop)(F:Nat→Prop)(a:Option Addr)(cap:Nat)(bs:List Nat)(c0:Cp)(w:World)(hl:bs.length≤10000)(hcap:bs.length≤cap)(hr:BRd w a bs)
    (hF:∀ x,a=Z x→0 < bs.length→¬ F x.block) (hi:Inv c0 w)
    (hent:∀ args w,(callFunc K args).run D w=.ok (.enter K args) w)
    (hst:∀ c w1 w2,Inv c w1→Below w1.heap.size w1 w2→Inv c w2)
    (hcall:∀ (w1:World) (c:Cp) (k:Nat) (a:Option Addr) (cap:Nat) (vs:List Nat),Qae F w w1→Inv c w1→BRd w1 a vs→(∀ x,a=Z x→0 < vs.length→¬ F x.block)→vs.length≤255→vs.length≤cap→k < 256 →
      Calls D K (#[E R (k:Int),M a vs.length cap]++cs) w1 fun e w2=>Qod Inv (f k vs c) e w2∧Qae F w1 w2) :
    Calls D 62 #[M a bs.length cap,.func (.func K) #[] cs] w fun e w'=>Qod Inv (Qc7 f bs c0) e w'∧Qae F w w':=by
  have HR:=Qaa hr
  have HF:=Qaa hF
  have HI:=Qaa hi
  have HST:=Qaa hst
  have HC:=Qaa hcall
  clear hr hF hi hst hcall
  go_enter Tryz.func62,Tryz.ntmps62
  go_wp2
  go_loopw [0] (fun u wq=>∃ (rest:List Nat) (a:Option Addr) (n cp:Nat) (c:Cp),u=M a n cp∧Hid (rest.length=n)∧n≤cp∧n≤10000∧Hid (Qc7 f bs c0=Qc7 f rest c)∧Hid (BRd wq a rest)∧Hid (∀ x,a=Z x→0 < n→¬ F x.block)∧Hid (Inv c wq)∧Hid (Qae F w wq)) (fun u _=>sliceLen u)
  case atStart=>exact ⟨bs,a,_,cap,c0,rfl,rfl,hcap,hl,rfl,HR,HF,HI,Qae.refl _ _⟩
  case round =>
    clear HR HF HI
    obtain ⟨rest,a1,n,cp,c,rfl,HN,hnc,hn,HE,HB,HX,HI,HK⟩:=hrel
    by_cases h0:n=0
    · have HE2:Hid (Qc7 f bs c0=Z c):=by
        show _=_
        rw [HE.out,List.eq_nil_of_length_eq_zero (HN.out.trans h0),Qhv]
      subst h0
      go_wp2
      go_ret
      exact ⟨by rw [HE2.out]; exact ⟨rfl,HI.out⟩,HK.out⟩
    · have hne:rest≠[]:=fun e=>h0 (by rw [← HN.out,e]; rfl)
      have hn0:(0:Int) < (n:Int):=by omega
      by_cases h2:n < 2
      · have HE2:Hid (Qc7 f bs c0=J):=by
          show _=_
          rw [HE.out,Qfx hne (decide_eq_false (fun h=>by rw [HN.out] at h; omega))]
        have h2i:(n:Int) < 2:=by omega
        go_wp2
        go_ret
        exact ⟨by rw [HE2.out]; rfl,HK.out⟩
      · obtain ⟨b,o,rfl,hc⟩:=HB.out.1.2 (by rw [HN.out]; omega)
        have hbF:¬ F b:=HX.out ⟨b,o,J⟩ rfl (by omega)
        obtain ⟨l,hl1⟩:∃ l,l=rest.getD 1 0:=⟨_,rfl⟩
        obtain ⟨k,hk1⟩:∃ k,k=rest.getD 0 0:=⟨_,rfl⟩
        have y1:wr.cell? ⟨b,o+1,J⟩=Z (E .u8 (l:Int)):=by rw [hl1]; exact hc 1 (by rw [HN.out]; omega)
        have y0:wr.cell? ⟨b,o,J⟩=Z (E .u8 (k:Int)):=by rw [hk1]; exact hc 0 (by rw [HN.out]; omega)
        have hl256:l < 256:=by rw [hl1]; exact Qau HB.out.2 1
        have hk256:k < 256:=by rw [hk1]; exact Qau HB.out.2 0
        have hbs:b < wr.heap.size:=by have:=Y wr _ y0; simpa using this
        have hn1:(1:Int) < (n:Int):=by omega
        have h2i:¬ ((n:Int) < 2):=by omega
        by_cases hend:n < 2+l
        · have HE2:Hid (Qc7 f bs c0=J):=by
            show _=_
            rw [HE.out,Qfx hne (decide_eq_false (fun h=>by rw [HN.out,← hl1] at h; omega))]
          have hei:(n:Int) < 2+(l:Int):=by omega
          clear HE HB HX HC hc hl1 hk1 hne h0 h2
          go_wp2_with fail
          go_quiet (fail)
          go_wp2
          go_ret
          exact ⟨by rw [HE2.out]; rfl,⟨HK.out.os,HK.out.tape,HK.out.output,HK.out.size,HK.out.block⟩⟩
        · have hok:okE rest=true:=decide_eq_true (by rw [HN.out,← hl1]; omega)
          have HE2:Hid (Qc7 f bs c0=(f k ((rest.drop 2).take l) c).bind (Qc7 f (rest.drop (2+l)))):=by
            show _=_
            rw [HE.out,Qhh hok,← hl1,← hk1]
          have hei:decide ((n:Int) < 2+(l:Int))=false:=decide_eq_false (by omega)
          have hvl:((rest.drop 2).take l).length=l:=by rw [List.length_take,List.length_drop,HN.out]; omega
          have hbd:Below wr.heap.size wr wr.drew:=(Below.refl _ _).drew
          have HKd:Hid (Qae F w wr.drew):=HK.out.drew
          have HBd:Hid (BRd wr.drew (Z ⟨b,o,J⟩) rest):=HB.out.below hbd
          have HC1:Hid (∀ a3 c3,(l=0∨a3=Z ⟨b,o+2,J⟩)→l≤c3→Calls D K (#[E R (k:Int),M a3 l c3]++cs) wr.drew fun e w2=>Qod Inv (f k ((rest.drop 2).take l) c) e w2∧Qae F wr.drew w2):=fun a3 c3 ha hlc=>by
            have h9:=HC.out wr.drew c k a3 c3 ((rest.drop 2).take l) HKd.out (HST.out c wr wr.drew HI.out hbd) ?_ ?_ (by omega) (by omega) hk256
            · rw [hvl] at h9; exact h9
            · rcases ha with rfl | rfl
              · rw [List.take_zero]; exact Qbf _ _
              · exact Qcq HBd.out 2 l (by rw [HN.out]; omega)
            · intro x hx hp
              rcases ha with rfl | rfl
              · rw [hvl] at hp; omega
              · cases hx; exact hbF
          have HBB:Hid (∀ W,Qae F wr.drew W→BRd W (Z ⟨b,o,J⟩) rest):=fun W hk=>HBd.out.keeps hk (fun x e _=>by cases e; exact hbF)
          have HND:Hid ((rest.drop (2+l)).length=n - (2+l)):=by show _=_; rw [List.length_drop,HN.out]
          have hs0:wr.drew.cell? ⟨b,o,J⟩=Z (E .u8 (k:Int)):=y0
          have HS0:=Qaa hs0
          have htn:(2+(l:Int)).toNat - 2=l:=by omega
          have HSW:Hid (∀ W,Qae F wr.drew W→W.cell? ⟨b,o,J⟩=Z (E .u8 (k:Int))):=fun W hk=>by rw [hk.cell ⟨b,o,J⟩ hbs hbF]; exact HS0.out
          have hwk:IntKind.i64.wrap (k:Int)=(k:Int):=by rw [IntKind.wrap_i64]; omega
          clear HE HB HC hc hl1 hk1 hne h0 h2 hok hbd hs0
          by_cases hc2:cp=2
          · have hl0:l=0:=by omega
            have hn2:n=2:=by omega
            subst hl0
            subst hn2
            subst hc2
            have HC2:=Qaa (HC1.out (Z ⟨b,o,J⟩) 0 (.inl rfl) (by omega))
            clear HC1
            cases hfr:f k ((rest.drop 2).take 0) c with
            | none =>
              rw [hfr] at HC2 HE2
              go_wp2_with fail
              go_region_held3 (fun w'=>w'.cell? ⟨b,o,J⟩=Z (E .u8 (k:Int)))
                (with_reducible first | exact HS0.out | exact HS2.out | fail)
                (first
                  | (try rw [hwk]
                     try rw [htn]
                     with_reducible refine HC2.out.mono ?_
                     rintro e w2 ⟨ht,hk2⟩
                     obtain rfl:e=_:=ht
                     have HK2:=Qaa hk2
                     have HS2:=Qaa (HSW.out w2 hk2)
                     clear hk2))
              all_goals go_wp2
              all_goals go_ret
              all_goals exact ⟨by rw [HE2.out]; rfl,HKd.out.trans HK2.out (fun _ _ h=>h)⟩
            | some c2 =>
              rw [hfr] at HC2 HE2
              go_wp2_with fail
              go_region_held3 (fun w'=>w'.cell? ⟨b,o,J⟩=Z (E .u8 (k:Int)))
                (with_reducible first | exact HS0.out | exact HS2.out | fail)
                (first
                  | (try rw [hwk]
                     try rw [htn]
                     with_reducible refine HC2.out.mono ?_
                     rintro e w2 ⟨ht,hk2⟩
                     obtain ⟨rfl,hi2⟩:=ht
                     have HI2:=Qaa hi2
                     have HK2:=Qaa hk2
                     have HS2:=Qaa (HSW.out w2 hk2)
                     clear hk2))
              all_goals go_wp2
              all_goals exact ⟨⟨rest.drop (2+0),_,_,_,c2,rfl,HND.out.trans (by omega),by omega,by omega,HE2,by show BRd _ _ _; rw [List.eq_nil_of_length_eq_zero (HND.out.trans (by omega))]; exact Qbf _ _,fun x _ h=>absurd h (by omega),HI2,HKd.out.trans HK2.out (fun _ _ h=>h)⟩,by simp [sliceLen]⟩
          · have HC2:=Qaa (HC1.out (Z ⟨b,o+2,J⟩) (cp - 2) (.inr rfl) (by omega))
            have hs1:(2:Int)≤2+(l:Int):=by omega
            have hs2:2+(l:Int)≤(cp:Int):=by omega
            have hs3:2+(l:Int)≤(n:Int):=by omega
            clear HC1
            cases hfr:f k ((rest.drop 2).take l) c with
            | none =>
              rw [hfr] at HC2 HE2
              go_wp2_with fail
              go_region_held3 (fun w'=>w'.cell? ⟨b,o,J⟩=Z (E .u8 (k:Int)))
                (with_reducible first | exact HS0.out | exact HS2.out | fail)
                (first
                  | (try rw [hwk]
                     try rw [htn]
                     with_reducible refine HC2.out.mono ?_
                     rintro e w2 ⟨ht,hk2⟩
                     obtain rfl:e=_:=ht
                     have HK2:=Qaa hk2
                     have HS2:=Qaa (HSW.out w2 hk2)
                     clear hk2))
              all_goals go_wp2
              all_goals go_ret
              all_goals exact ⟨by rw [HE2.out]; rfl,HKd.out.trans HK2.out (fun _ _ h=>h)⟩
            | some c2 =>
              by_cases hce:cp=2+l
              · have hl0:¬ l=0:=by omega
                subst hce
                rw [show 2+l - 2=l from by omega] at HC2
                rw [hfr] at HC2 HE2
                go_wp2_with fail
                go_region_held3 (fun w'=>w'.cell? ⟨b,o,J⟩=Z (E .u8 (k:Int)))
                  (with_reducible first | exact HS0.out | exact HS2.out | fail)
                  (first
                    | (try rw [hwk]
                       try rw [htn]
                       with_reducible refine HC2.out.mono ?_
                       rintro e w2 ⟨ht,hk2⟩
                       obtain ⟨rfl,hi2⟩:=ht
                       have HI2:=Qaa hi2
                       have HK2:=Qaa hk2
                       have HS2:=Qaa (HSW.out w2 hk2)
                       clear hk2))
                all_goals go_wp2
                all_goals exact ⟨⟨rest.drop (2+l),_,_,_,c2,rfl,HND.out.trans (by omega),by omega,by omega,HE2,by show BRd _ _ _; rw [List.eq_nil_of_length_eq_zero (HND.out.trans (by omega))]; exact Qbf _ _,fun x _ h=>absurd h (by omega),HI2,HKd.out.trans HK2.out (fun _ _ h=>h)⟩,by simp [sliceLen]; omega⟩
              · rw [hfr] at HC2 HE2
                go_wp2_with fail
                go_region_held3 (fun w'=>w'.cell? ⟨b,o,J⟩=Z (E .u8 (k:Int)))
                  (with_reducible first | exact HS0.out | exact HS2.out | fail)
                  (first
                    | (try rw [hwk]
                       try rw [htn]
                       with_reducible refine HC2.out.mono ?_
                       rintro e w2 ⟨ht,hk2⟩
                       obtain ⟨rfl,hi2⟩:=ht
                       have HI2:=Qaa hi2
                       have HK2:=Qaa hk2
                       have HS2:=Qaa (HSW.out w2 hk2)
                       clear hk2))
                all_goals go_wp2
                all_goals exact ⟨⟨rest.drop (2+l),_,_,_,c2,rfl,HND,by omega,by omega,HE2,by show BRd _ _ _; have h9:=Qcq (HBB.out _ HK2.out) (2+l) (n - (2+l)) (by rw [HN.out]; omega); rw [List.take_of_length_le (by rw [HND.out]; exact I _)] at h9; exact h9,fun x hx _=>by cases hx; exact hbF,HI2,HKd.out.trans HK2.out (fun _ _ h=>h)⟩,by simp [sliceLen]; omega⟩
structure Qo7 (X P Q:Nat) (c:Cp) (w:World):Prop where
 box:Qeg w X c
 ptr:w.cell? ⟨P,0,J⟩=Z (U (Z ⟨X,0,J⟩))
 fn:w.cell? ⟨Q,0,J⟩=Z (.func (.func 86) #[] #[U (Z ⟨P,0,J⟩)])
 hp:P≠X
 hq:Q≠X
theorem Qo7.later {X P Q:Nat}{c:Cp}{w w':World} (h:Qo7 X P Q c w) (hb:Below w.heap.size w w'):Qo7 X P Q c w':=by
 have h1:=Y w _ h.ptr
 have h2:=Y w _ h.fn
 exact ⟨h.box.later hb,by rw [hb.cell (p:=⟨P,0,J⟩) h1]; exact h.ptr,by rw [hb.cell (p:=⟨Q,0,J⟩) h2]; exact h.fn,h.hp,h.hq⟩
theorem Qo7.keeps {X P Q:Nat}{c c':Cp}{w w':World} (h:Qo7 X P Q c w) (hk:Qae (fun b=>b=X) w w') (hx:Qeg w' X c'):Qo7 X P Q c' w':=by
 have h1:=Y w _ h.ptr
 have h2:=Y w _ h.fn
 exact ⟨hx,by rw [hk.cell ⟨P,0,J⟩ h1 h.hp]; exact h.ptr,by rw [hk.cell ⟨Q,0,J⟩ h2 h.hq]; exact h.fn,h.hp,h.hq⟩
theorem Qs0 (X P Q:Nat)(a:Option Addr)(cap:Nat)(bs:List Nat)(c:Cp)(w:World)(hl:bs.length≤10000)(hcap:bs.length≤cap)(hr:BRd w a bs)(hF:∀ x,a=Z x→0 < bs.length→x.block≠X)(hi:Qo7 X P Q c w) :
  Calls D 62 #[M a bs.length cap,.func (.func 86) #[] #[U (Z ⟨P,0,J⟩)]] w fun e w'=>Qod (Qo7 X P Q) (Qc7 Qa1 bs c) e w'∧Qae (fun b=>b=X) w w' :=
 Qqx Qa1 86 #[U (Z ⟨P,0,J⟩)] (Qo7 X P Q) (fun b=>b=X) a cap bs c w hl hcap hr hF hi Tryz.call86 (fun _ _ _ h hb=>h.later hb) (fun w1 c1 k a1 cap1 vs _ hi1 hr1 hx1 hv hc1 _ =>
  (Qte X P c1 k a1 cap1 vs w1 hi1.ptr hi1.box hr1 hx1 (by omega) hc1).mono fun e w2 ⟨ht,hk⟩=>⟨by
   cases h:Qa1 k vs c1 with
   | none=>rw [h] at ht; exact ht
   | some c2=>rw [h] at ht; exact ⟨ht.1,hi1.keeps hk ht.2⟩,hk⟩)
theorem Qxy {Inv:Cp→World→Prop}{r:Option Cp}{e:Ending}{w:World} (h:Qod Inv r e w):∃ z:Bool,e=T (V z)∧Qod Inv r (T (V z)) w:=by
 cases r with
 | none=>exact ⟨false,h,rfl⟩
 | some c=>exact ⟨true,h.1,rfl,h.2⟩
theorem Qwb (X P Q:Nat)(a:Option Addr)(cap:Nat)(bs:List Nat)(c:Cp)(k:Nat)(w:World)(hl:bs.length≤10000)(hcap:bs.length≤cap)(hr:BRd w a bs)(hF:∀ x,a=Z x→0 < bs.length→x.block≠X)(hi:Qo7 X P Q c w) :
  Calls D 63 #[E R (k:Int),M a bs.length cap,U (Z ⟨Q,0,J⟩)] w fun e w'=>Qod (Qo7 X P Q) (Qcu k bs c) e w'∧Qae (fun b=>b=X) w w':=by
 have hq:=hi.fn
 have hqs:=Y w _ hq
 simp only at hqs
 have HI:=Qaa (Qs0 X P Q a cap bs c w hl hcap hr hF hi)
 by_cases h2:k=2
 ·subst h2
  have HE:Hid (Qcu 2 bs c=Qc7 Qa1 bs c):=rfl
  generalize Qcu 2 bs c=rp at *
  generalize Qc7 Qa1 bs c=ro at *
  clear hr hF hi hl hcap
  generalize bs.length=n at *
  go_enter Tryz.func63,Tryz.ntmps63
  go_wp2_with fail
  refine HI.out.mono ?_
  rintro e w1 ⟨ht,hk⟩
  obtain ⟨z,rfl,ht⟩:=Qxy ht
  have HT:=Qaa ht
  have HK:=Qaa hk
  clear ht hk
  go_wp2
  go_ret
  exact ⟨by rw [HE.out]; exact HT.out,HK.out⟩
 ·have HE:Hid (Qcu k bs c=J):=by show _=_; unfold Qcu; rw [if_neg h2]
  generalize Qcu k bs c=rp at *
  clear hr hF hi hl hcap HI
  generalize bs.length=n at *
  have h2i:((k:Int) == 2)=false:=by simp; omega
  clear h2
  go_enter Tryz.func63,Tryz.ntmps63
  go_wp2
  go_ret
  exact ⟨by rw [HE.out]; rfl,Qae.refl _ _⟩
theorem Qvi (X P Q:Nat)(a:Option Addr)(cap:Nat)(bs:List Nat)(c:Cp)(w:World)(hl:bs.length≤10000)(hcap:bs.length≤cap)(hr:BRd w a bs)(hF:∀ x,a=Z x→0 < bs.length→x.block≠X)(hi:Qo7 X P Q c w) :
  Calls D 62 #[M a bs.length cap,.func (.func 63) #[] #[U (Z ⟨Q,0,J⟩)]] w fun e w'=>Qod (Qo7 X P Q) (Qc7 Qcu bs c) e w'∧Qae (fun b=>b=X) w w' :=
 Qqx Qcu 63 #[U (Z ⟨Q,0,J⟩)] (Qo7 X P Q) (fun b=>b=X) a cap bs c w hl hcap hr hF hi Tryz.call63 (fun _ _ _ h hb=>h.later hb) (fun w1 c1 k a1 cap1 vs _ hi1 hr1 hx1 hv hc1 _ =>
  Qwb X P Q a1 cap1 vs c1 k w1 (by omega) hc1 hr1 hx1 hi1)
theorem Qwi (X:Nat)(w:World):Calls D 61 #[U (Z ⟨X,0,J⟩)] w fun e w'=>e=T (.func (.func 86) #[] #[U (Z ⟨w.heap.size,0,J⟩)])∧w'=w.alloc (.cells #[U (Z ⟨X,0,J⟩)] 91):=by
 go_enter Tryz.func61,Tryz.ntmps61
 go_wp2
 go_ret
 exact ⟨rfl,rfl⟩
def zeroC:Obj:=.cells #[V false,E R 0,V false,V false,E R 0,V false,V false,V false,E R 0] 26
theorem Qji (w:World):Qry (w.alloc zeroC) w.heap.size cp0:=Qry.new w cp0
def Qvl (w:World):World:=(((w.alloc zeroC).alloc zeroC).alloc (.cells #[U (Z ⟨w.heap.size+1,0,J⟩)] 91)).alloc (.cells #[.func (.func 86) #[] #[U (Z ⟨w.heap.size+1+1,0,J⟩)]] 115)
theorem Qk8 (w:World):Below w.heap.size w (Qvl w):=by
 unfold Qvl
 exact ((((Below.refl w.heap.size w).alloc (I _) _).alloc (by simp) _).alloc (by simp only [World.size_alloc]; omega) _).alloc (by simp only [World.size_alloc]; omega) _
theorem Qv5 (w:World):Qo7 (w.heap.size+1) (w.heap.size+1+1) (w.heap.size+1+1+1) cp0 (Qvl w):=by
 unfold Qvl
 refine ⟨⟨?_,fun j=>?_⟩,?_,?_,by omega,by omega⟩
 ·have h1:=Qji (w.alloc zeroC)
  simp only [World.size_alloc] at h1
  refine h1.block ?_
  rw [heap_alloc_old _ _ (by simp only [World.size_alloc]; omega),heap_alloc_old _ _ (by simp only [World.size_alloc]; omega)]
 ·have e:∀ (W:World) (o:Obj) (b:Nat),b < W.heap.size→(W.alloc o).frozen? ⟨b,j,J⟩=W.frozen? ⟨b,j,J⟩:=fun W o b hb=>World.frozen?_of_block (heap_alloc_old W o hb)
  rw [e _ _ _ (by simp only [World.size_alloc]; omega),e _ _ _ (by simp only [World.size_alloc]; omega)]
  unfold zeroC
  have:=World.frozen?_alloc_mark (w.alloc zeroC) #[V false,E R 0,V false,V false,E R 0,V false,V false,V false,E R 0] 26 0 0 j
  simp only [World.size_alloc] at this
  unfold zeroC at this
  rw [this]
  simp
 ·have:=World.cell?_alloc_mark ((w.alloc zeroC).alloc zeroC) #[U (Z ⟨w.heap.size+1,0,J⟩)] 91 (0,0) 0
  simp only [World.size_alloc] at this
  rw [World.cell?_alloc_lt _ _ _ (by simp only [World.size_alloc]; omega),this]
  rfl
 ·have:=World.cell?_alloc_mark (((w.alloc zeroC).alloc zeroC).alloc (.cells #[U (Z ⟨w.heap.size+1,0,J⟩)] 91)) #[.func (.func 86) #[] #[U (Z ⟨w.heap.size+1+1,0,J⟩)]] 115 (0,0) 0
  simp only [World.size_alloc] at this
  rw [this]
  rfl
theorem Qvv (w:World):Qry (Qvl w) w.heap.size cp0∧∀ j,(Qvl w).frozen? ⟨w.heap.size,j,J⟩=false:=by
 have hb:(Qvl w).heap[w.heap.size]?=(w.alloc zeroC).heap[w.heap.size]?:=by
  unfold Qvl
  rw [heap_alloc_old _ _ (by simp only [World.size_alloc]; omega),heap_alloc_old _ _ (by simp only [World.size_alloc]; omega),heap_alloc_old _ _ (by simp only [World.size_alloc]; omega)]
 refine ⟨(Qji w).block hb,fun j=>?_⟩
 rw [World.frozen?_of_block hb]
 have:=World.frozen?_alloc_mark w #[V false,E R 0,V false,V false,E R 0,V false,V false,V false,E R 0] 26 0 0 j
 unfold zeroC
 rw [this]
 simp
def Qpy (r:Option Cp):Value:=.tuple #[Qga (r.getD cp0),V r.isSome]
theorem Qll (a:Option Addr)(cap:Nat)(bs:List Nat)(w:World)(hl:bs.length≤10000)(hcap:bs.length≤cap)(hr:BRd w a bs) :
  Calls D 40 #[M a bs.length cap] w fun e w'=>e=T (Qpy (Qfc bs))∧Below w.heap.size w w':=by
 have hrD:=hr.below (Qk8 w)
 have HO:=Qaa (Qvi (w.heap.size+1) (w.heap.size+1+1) (w.heap.size+1+1+1) a cap bs cp0 (Qvl w) hl hcap hrD (fun x hx hp=>by
  have:=hr.1.lt x hx hp
  omega) (Qv5 w))
 have HR:=Qaa (Qvv w)
 have HBD:=Qaa (Qk8 w)
 have HRC:Hid (Qfc bs=Qc7 Qcu bs cp0):=rfl
 generalize Qfc bs=rc at *
 rw [← HRC.out] at HO
 clear HRC hr hrD hl hcap
 generalize bs.length=n at *
 go_enter Tryz.func40,Tryz.ntmps40
 go_wp2_with fail
 refine (Qwi _ _).mono ?_
 rintro e w1 ⟨rfl,hw1⟩
 subst hw1
 go_wp2_with fail
 refine HO.out.mono ?_
 rintro e w5 ⟨ht,hk⟩
 have HB5:Hid (Below w.heap.size w w5):=HBD.out.trans (hk.below w.heap.size HBD.out.size (fun b hb=>by omega))
 have hb9:w5.heap[w.heap.size]?=(Qvl w).heap[w.heap.size]?:=hk.block _ (by unfold Qvl; simp only [World.size_alloc]; omega) (by omega)
 have hR:=HR.out.1.block hb9
 have hF:∀ j,w5.frozen? ⟨w.heap.size,j,J⟩=false:=fun j=>by rw [World.frozen?_of_block hb9]; exact HR.out.2 j
 have hRs:=hR.size
 obtain ⟨r0,r1,r2,r3,r4,r5,r6,r7,r8⟩:=hR
 have f0:=hF 0
 have f1:=hF 1
 have f2:=hF 2
 have f3:=hF 3
 have f4:=hF 4
 have f5:=hF 5
 have f6:=hF 6
 have f7:=hF 7
 have f8:=hF 8
 unfold cp0 at r0 r1 r2 r3 r4 r5 r6 r7 r8
 simp only at r0 r1 r2 r3 r4 r5 r6 r7 r8
 clear hk hb9 HR HBD HO hF
 cases rc with
 | none =>
  obtain rfl:e=_:=ht
  go_wp2_with fail
  refine bodyPost_ret (v:=.tuple #[.agg #[V false,E R 0,V false,V false,E R 0,V false,V false,V false,E R 0],V false]) (by simp [results,Tryz.results40,go_sem,r0,r1,r2,r3,r4,r5,r6,r7,r8]) rfl ⟨rfl,?_⟩
  exact ((((((((HB5.out.setCell (I _) _).setCell (I _) _).setCell (I _) _).setCell (I _) _).setCell (I _) _).setCell (I _) _).setCell (I _) _).setCell (I _) _).setCell (I _) _
 | some c =>
  obtain ⟨rfl,hi⟩:=ht
  obtain ⟨x0,x1,x2,x3,x4,x5,x6,x7,x8⟩:=hi.box.cells
  have hXs:=hi.box.size
  clear hi
  obtain ⟨four,as4,gr,rs,tm,fam,fwd,ll,lt⟩:=c
  simp only at x0 x1 x2 x3 x4 x5 x6 x7 x8
  go_wp2_with fail
  refine bodyPost_ret (v:=.tuple #[.agg #[V four,E R as4,V gr,V rs,E R tm,V fam,V fwd,V ll,E R lt],V true]) (by simp [results,Tryz.results40,go_sem,r0,r1,r2,r3,r4,r5,r6,r7,r8]) rfl ⟨rfl,?_⟩
  exact ((((((((HB5.out.setCell (I _) _).setCell (I _) _).setCell (I _) _).setCell (I _) _).setCell (I _) _).setCell (I _) _).setCell (I _) _).setCell (I _) _).setCell (I _) _
