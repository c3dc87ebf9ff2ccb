import Derived.Test.YtogbjeaceboemaaGreatDoorPA23
import Derived.Test.YtogbjeaceboemaaGreatDoorPA24
import Derived.Test.YtogbjeaceboemaaGreatDoorPA4
import Derived.Test.YtogbjeaceboemaaGreatDoorPA17
import Derived.Test.YtogbjeaceboemaaGreatDoorPA18
import Derived.Test.YtogbjeaceboemaaGreatDoorPA22
import Derived.Test.YtogbjeaceboemaaGreatDoorPA8
namespace Go.Proofs.YtogbjeaceboemaaGreatDoor
set_option linter.unnecessarySimpa false
open Go.RowKit
set_option maxRecDepth 100000
def applyQ (a:At)(fl ty:Nat)(d all:List Nat):Res :=
 if 1≤ty∧ty≤8 then
  if flagsOk fl ty=false then .inl (3,4,all)
  else if fitsB ty d.length=false then .inl (3,5,all)
  else if ty=1 then if 2 < d.getD 0 0 then .inl (3,6,all) else .inr { a with origin:=((d.getD 0 0:Nat):Int) }
  else if ty=2 then match segsRun (fun q=>d.getD q 0) d.length 0 [] with
   | none=>.inl (3,11,[])
   | some p=>.inr { a with path:=p }
  else if ty=3 then if hopB (numL d) then .inr { a with next:=numL d } else .inl (3,8,all)
  else if ty=4 then .inr { a with med:=((numL d:Nat):Int) }
  else if ty=5 then .inr { a with pref:=((numL d:Nat):Int) }
  else if ty=8 then if 32 < d.length / 4 then .inl (3,9,all) else .inr { a with comms:=numsL d }
  else .inr { a with raws:=a.raws++[(((flagN ty:Nat):Int),(ty:Int),d)] }
 else if fl < 128 then .inl (3,2,all)
 else if fl / 64 % 2=0 then .inr a
 else if 255 < d.length then .inl (3,9,all)
 else if 8 < ty then .inr { a with raws:=a.raws++[(224,(ty:Int),d)] }
 else .inr a
theorem fitsB_bad (ty:Nat)(d:List Nat)(h1:1≤ty)(h8:ty≤8)(hd:d.length≤65535):fitsB ty d.length = !sizeBad ty d:=by
 unfold fitsB sizeBad leastN mostN eachN
 have hk:ty=1∨ty=2∨ty=3∨ty=4∨ty=5∨ty=6∨ty=7∨ty=8:=by omega
 generalize d.length=n at *
 rw [Bool.eq_iff_iff]
 simp only [Bool.not_eq_true',decide_eq_false_iff_not,decide_eq_true_eq]
 rcases hk with rfl | rfl | rfl | rfl | rfl | rfl | rfl | rfl <;> simp <;> omega
theorem brd_getD {w:World}{a:Option Addr}{d:List Nat}(h:BRd w a d)(q:Nat):d.getD q 0 < 256:=by
 by_cases hq:q < d.length
 ·rw [List.getD_eq_getElem?_getD,List.getElem?_eq_getElem hq]
  exact h.2 _ (List.getElem_mem hq)
 ·rw [List.getD_eq_getElem?_getD,List.getElem?_eq_none (by omega)]
  decide
theorem into_any (fl ty:Nat)(a1:Option Addr)(c1:Nat)(a2:Option Addr)(c2:Nat)(d all:List Nat)(X B:Nat)(a:At)(w:World)(hS:Said w)(hf:fl < 256)(hd:d.length≤10000)(hdc:d.length≤c1)(hdr:BRd w a1 d)(hl:all.length≤100000)(h:BRd w a2 all)(hX2:∀ ad,a2=some ad→0 < all.length→ad.block < X)(hbox:Box w X B a)(hB:B≤w.heap.size)(hr:a.raws.length≤10000) :
  Calls Tryz.prog 71 #[partV (fl:Int) (ty:Int) a1 d.length c1 a2 all.length c2,.pointer (some ⟨X,0,none⟩)] w fun e w'=>IntoRes X B w w' (applyQ a fl ty d all) e:=by
 unfold applyQ
 by_cases hk:1≤ty∧ty≤8
 ·rw [if_pos hk]
  by_cases hv:flagsOk fl ty=false
  ·rw [if_pos hv]
   exact (into_flags fl ty a1 d.length c1 a2 c2 all X w hS hf hk.1 hk.2 hv hl h).mono fun _ _ h9=>h9.box hbox
  ·rw [if_neg hv]
   have hv2:flagsOk fl ty=true:=by cases h9:flagsOk fl ty with | true=>rfl | false=>exact absurd h9 hv
   by_cases hs:fitsB ty d.length=false
   ·rw [if_pos hs]
    exact (into_size fl ty a1 d.length c1 a2 c2 all X w hS hf hk.1 hk.2 hv2 hs (by omega) hl h).mono fun _ _ h9=>h9.box hbox
   ·rw [if_neg hs]
    have hs2:fitsB ty d.length=true:=by cases h9:fitsB ty d.length with | true=>rfl | false=>exact absurd h9 hs
    have hfit:=of_decide_eq_true hs2
    by_cases h1:ty=1
    ·rw [if_pos h1]
     subst h1
     have hn:d.length=1:=by unfold leastN mostN at hfit; simp at hfit; omega
     obtain ⟨b,o,rfl,hc,hlt⟩:=hdr.cells (by omega)
     have:=into_1 fl (d.getD 0 0) b o c1 a2 c2 all X B a w hS hf hv2 (hlt 0) (by have:=hc 0 (by omega); simpa using this) hl h hbox hX2
     rw [hn]
     exact this
    ·rw [if_neg h1]
     by_cases h2:ty=2
     ·rw [if_pos h2]
      subst h2
      exact into_2 fl a1 c1 a2 all.length c2 d X B a w hS hf hv2 hd hdc hdr hbox hB
     ·rw [if_neg h2]
      have four:(ty=3∨ty=4∨ty=5)→d.length=4:=fun h9=>by
       unfold leastN mostN at hfit
       rcases h9 with rfl | rfl | rfl <;> simp at hfit <;> omega
      by_cases h3:ty=3
      ·rw [if_pos h3]
       have hn:=four (.inl h3)
       subst h3
       obtain ⟨b,o,rfl,hc,hlt⟩:=hdr.cells (by omega)
       have:=into_3 fl b o c1 a2 c2 all (fun q=>d.getD q 0) X B a w hS hf hv2 (fun i _=>hlt i) (fun i hi=>hc i (by omega)) hl h hbox hX2
       rw [hn]
       exact this
      ·rw [if_neg h3]
       by_cases h4:ty=4
       ·rw [if_pos h4]
        have hn:=four (.inr (.inl h4))
        subst h4
        obtain ⟨b,o,rfl,hc,hlt⟩:=hdr.cells (by omega)
        have:=into_4 fl b o c1 a2 all.length c2 (fun q=>d.getD q 0) X B a w hS hf hv2 (fun i _=>hlt i) (fun i hi=>hc i (by omega)) hbox
        rw [hn]
        exact this
       ·rw [if_neg h4]
        by_cases h5:ty=5
        ·rw [if_pos h5]
         have hn:=four (.inr (.inr h5))
         subst h5
         obtain ⟨b,o,rfl,hc,hlt⟩:=hdr.cells (by omega)
         have:=into_5 fl b o c1 a2 all.length c2 (fun q=>d.getD q 0) X B a w hS hf hv2 (fun i _=>hlt i) (fun i hi=>hc i (by omega)) hbox
         rw [hn]
         exact this
        ·rw [if_neg h5]
         by_cases h8:ty=8
         ·rw [if_pos h8]
          subst h8
          have hn:0 < d.length∧d.length % 4=0:=by unfold leastN mostN eachN at hfit; simp at hfit; omega
          obtain ⟨b,o,rfl,hc,hlt⟩:=hdr.cells hn.1
          have e4:4 * (d.length / 4)=d.length:=by omega
          have:=into_8 fl b o (d.length / 4) c1 a2 c2 all (fun q=>d.getD q 0) X B a w hS hf hv2 (by omega) (by omega) (fun i _=>hlt i) (fun i hi=>hc i (by omega)) hl h hbox hB hX2
          rw [e4] at this
          exact this
         ·rw [if_neg h8]
          exact into_67 fl ty a1 c1 a2 all.length c2 d X B a w hS hf (by omega) hv2 hs2 (by
           have h67:ty=6∨ty=7:=by omega
           have hm:d.length≤mostN ty:=hfit.2.1
           have e6:mostN 6=0:=rfl
           have e7:mostN 7=8:=rfl
           rcases h67 with rfl | rfl <;> omega) hdr hbox hB hr
 ·rw [if_neg hk]
  have hty:ty=0∨8 < ty:=by omega
  by_cases h1:fl < 128
  ·rw [if_pos h1]
   exact (into_unk_throw fl ty a1 d.length c1 a2 all.length c2 X w 2 all hty (fun w1 hb=>unk_no2 fl ty a1 d.length c1 a2 c2 all X w1 h1 hl (h.below hb))).mono fun _ _ h9=>h9.box hbox
  ·rw [if_neg h1]
   by_cases h2:fl / 64 % 2=0
   ·rw [if_pos h2]
    exact into_unk_ret fl ty a1 d.length c1 a2 all.length c2 X w (fun w'=>Box w' X B a∧Keeps (NotBox X B) w w') hty (fun w1 hb=>(unk_skip fl ty a1 d.length c1 a2 all.length c2 X w1 (by omega) hf h2).mono fun _ w' h9=>⟨h9.1,(hbox.later hb).later h9.2,keeps_box (hb.trans (h9.2.mono hb.size))⟩)
   ·rw [if_neg h2]
    by_cases h3:255 < d.length
    ·rw [if_pos h3]
     exact (into_unk_throw fl ty a1 d.length c1 a2 all.length c2 X w 9 all hty (fun w1 hb=>unk_no9 fl ty a1 d.length c1 a2 c2 all X w1 (by omega) hf h2 h3 hl (h.below hb))).mono fun _ _ h9=>h9.box hbox
    ·rw [if_neg h3]
     by_cases h4:8 < ty
     ·rw [if_pos h4]
      exact into_unk_ret fl ty a1 d.length c1 a2 all.length c2 X w (fun w'=>Box w' X B { a with raws:=a.raws++[(224,(ty:Int),d)] }∧Keeps (NotBox X B) w w') hty (fun w1 hb=>(unk_put fl ty a1 c1 a2 all.length c2 d X B a w1 (by omega) hf h2 (by omega) h4 (hdr.below hb) (hbox.later hb) (Nat.le_trans hB hb.size) hr).mono fun _ w' h9=>⟨h9.1,h9.2.1,(keeps_box hb).trans h9.2.2 (fun _ _ h9=>h9)⟩)
     ·rw [if_neg h4]
      have h0:ty=0:=by omega
      subst h0
      exact into_unk_ret fl 0 a1 d.length c1 a2 all.length c2 X w (fun w'=>Box w' X B a∧Keeps (NotBox X B) w w') (.inl rfl) (fun w1 hb=>(unk_zero fl a1 d.length c1 a2 all.length c2 X w1 (by omega) hf h2 (by omega)).mono fun _ w' h9=>⟨h9.1,(hbox.later hb).later h9.2,keeps_box (hb.trans (h9.2.mono hb.size))⟩)
structure Rel (a b:At) (seen:List Nat):Prop where
 eq:b={ a with raws:=b.raws }
 perm:b.raws.Perm a.raws
 up:b.raws.Pairwise fun x y=>x.2.1 < y.2.1
 inn:∀ r∈a.raws,∃ t:Nat,r.2.1=(t:Int)∧t∈seen
 comms:8 ∉ seen→a.comms=[]
 cnt:a.raws.length≤seen.length
theorem Rel.more {a b:At}{seen:List Nat}(h:Rel a b seen)(ty:Nat):∀ r∈a.raws,∃ t:Nat,r.2.1=(t:Int)∧t∈ty :: seen:=fun r hr=>by
 obtain ⟨t,e,ht⟩:=h.inn r hr
 exact ⟨t,e,List.mem_cons_of_mem _ ht⟩
theorem Rel.snoc {a b:At}{seen:List Nat}(h:Rel a b seen)(ty:Nat)(hty:ty ∉ seen)(f:Int)(d:List Nat):Rel { a with raws:=a.raws++[(f,(ty:Int),d)] } { b with raws:=insR (f,(ty:Int),d) b.raws } (ty :: seen):=by
 refine ⟨by rw [h.eq],?_,?_,?_,fun h9=>h.comms (fun h8=>h9 (List.mem_cons_of_mem _ h8)),by simp only [List.length_append,List.length_cons,List.length_nil]; have:=h.cnt; omega⟩
 ·exact (insR_perm _ _).trans (h.perm.append_right _)
 ·refine insR_up _ _ h.up (fun x hx e=>?_)
  obtain ⟨t,e2,ht⟩:=h.inn x (h.perm.mem_iff.1 hx)
  rw [e2] at e
  simp only at e
  have:t=ty:=by omega
  exact hty (this ▸ ht)
 ·intro r hr
  rcases List.mem_append.1 hr with hr | hr
  ·exact h.more ty r hr
  ·simp only [List.mem_cons,List.not_mem_nil,or_false] at hr
   subst hr
   exact ⟨ty,rfl,by simp⟩
theorem Rel.same {a b a' b':At}{seen:List Nat}(h:Rel a b seen)(ty:Nat)(e:b'={ a' with raws:=b'.raws })(er:a'.raws=a.raws)(er2:b'.raws=b.raws)(ec:8 ∉ ty :: seen→a'.comms=[]):Rel a' b' (ty :: seen) :=
 ⟨e,by rw [er,er2]; exact h.perm,by rw [er2]; exact h.up,by rw [er]; exact h.more ty,ec,by rw [er,List.length_cons]; have:=h.cnt; omega⟩
theorem rel_step {a b:At}{seen:List Nat}(h:Rel a b seen)(fl ty:Nat)(d all:List Nat)(hty:ty ∉ seen)(hd:d.length≤65535) :
  (∀ n,applyQ a fl ty d all=.inl n→applyA b fl ty d all=.inl n)∧∀ a',applyQ a fl ty d all=.inr a'→∃ b',applyA b fl ty d all=.inr b'∧Rel a' b' (ty :: seen):=by
 have hcm:8 ∉ ty :: seen→a.comms=[]:=fun h9=>h.comms (fun h8=>h9 (List.mem_cons_of_mem _ h8))
 have hb:=h.eq
 have hbc:b.comms=a.comms:=by rw [hb]
 unfold applyQ applyA
 by_cases hk:1≤ty∧ty≤8
 ·rw [if_pos hk,if_pos hk]
  unfold knownA
  have ef:(fl / 64 * 64≠wantF ty∨fl / 32 % 2=1∧ty < 7)↔flagsOk fl ty=false:=by unfold flagsOk; simp only [Bool.not_eq_false',decide_eq_true_eq]
  by_cases hv:flagsOk fl ty=false
  ·rw [if_pos hv,if_pos (ef.2 hv)]
   exact ⟨fun n e=>e,fun a' e=>by cases e⟩
  ·rw [if_neg hv,if_neg (fun h9=>hv (ef.1 h9))]
   have es:=fitsB_bad ty d hk.1 hk.2 hd
   by_cases hs:fitsB ty d.length=false
   ·rw [if_pos hs,if_pos (show sizeBad ty d=true from by rw [hs] at es; simpa using es.symm)]
    exact ⟨fun n e=>e,fun a' e=>by cases e⟩
   ·rw [if_neg hs,if_neg (show ¬ sizeBad ty d=true from fun h9=>by rw [h9] at es; exact hs es)]
    by_cases h1:ty=1
    ·rw [if_pos h1,if_pos h1]
     split
     ·exact ⟨fun n e=>e,fun a' e=>by cases e⟩
     ·refine ⟨fun n e=>(by cases e),fun a' e=>?_⟩
      cases e
      exact ⟨_,rfl,h.same ty (by rw [hb]) rfl rfl hcm⟩
    ·rw [if_neg h1,if_neg h1]
     by_cases h2:ty=2
     ·rw [if_pos h2,if_pos h2]
      cases segsRun (fun q=>d.getD q 0) d.length 0 [] with
      | none=>exact ⟨fun n e=>e,fun a' e=>by cases e⟩
      | some p =>
       refine ⟨fun n e=>(by cases e),fun a' e=>?_⟩
       cases e
       exact ⟨_,rfl,h.same ty (by rw [hb]) rfl rfl hcm⟩
     ·rw [if_neg h2,if_neg h2]
      by_cases h3:ty=3
      ·rw [if_pos h3,if_pos h3]
       split
       ·refine ⟨fun n e=>(by cases e),fun a' e=>?_⟩
        cases e
        exact ⟨_,rfl,h.same ty (by rw [hb]) rfl rfl hcm⟩
       ·exact ⟨fun n e=>e,fun a' e=>by cases e⟩
      ·rw [if_neg h3,if_neg h3]
       by_cases h4:ty=4
       ·rw [if_pos h4,if_pos h4]
        refine ⟨fun n e=>(by cases e),fun a' e=>?_⟩
        cases e
        exact ⟨_,rfl,h.same ty (by rw [hb]) rfl rfl hcm⟩
       ·rw [if_neg h4,if_neg h4]
        by_cases h5:ty=5
        ·rw [if_pos h5,if_pos h5]
         refine ⟨fun n e=>(by cases e),fun a' e=>?_⟩
         cases e
         exact ⟨_,rfl,h.same ty (by rw [hb]) rfl rfl hcm⟩
        ·rw [if_neg h5,if_neg h5]
         by_cases h8:ty=8
         ·rw [if_pos h8,if_pos h8]
          subst h8
          have hc0:b.comms=[]:=by rw [hbc]; exact h.comms hty
          by_cases hl:128 < d.length
          ·rw [if_pos (show 32 < d.length / 4 by
            cases hq:fitsB 8 d.length with
            | false=>exact absurd hq hs
            | true=>have:=of_decide_eq_true hq; unfold eachN at this; simp at this; omega),if_pos hl]
           exact ⟨fun n e=>e,fun a' e=>by cases e⟩
          ·rw [if_neg (by omega),if_neg hl]
           refine ⟨fun n e=>(by cases e),fun a' e=>?_⟩
           cases e
           exact ⟨_,rfl,h.same 8 (by rw [hc0,List.nil_append,hb]) rfl rfl (fun h9=>absurd (List.mem_cons_self) h9)⟩
         ·rw [if_neg h8,if_neg h8]
          refine ⟨fun n e=>(by cases e),fun a' e=>?_⟩
          cases e
          exact ⟨_,rfl,h.snoc ty hty _ d⟩
 ·rw [if_neg hk,if_neg hk]
  by_cases h1:fl < 128
  ·rw [if_pos h1,if_pos h1]; exact ⟨fun n e=>e,fun a' e=>by cases e⟩
  ·rw [if_neg h1,if_neg h1]
   by_cases h2:fl / 64 % 2=0
   ·rw [if_pos h2,if_pos h2]
    refine ⟨fun n e=>(by cases e),fun a' e=>?_⟩
    cases e
    exact ⟨_,rfl,h.same ty hb rfl rfl hcm⟩
   ·rw [if_neg h2,if_neg h2]
    by_cases h3:255 < d.length
    ·rw [if_pos h3,if_pos h3]; exact ⟨fun n e=>e,fun a' e=>by cases e⟩
    ·rw [if_neg h3,if_neg h3]
     by_cases h4:8 < ty
     ·rw [if_pos h4,if_pos h4]
      refine ⟨fun n e=>(by cases e),fun a' e=>?_⟩
      cases e
      exact ⟨_,rfl,h.snoc ty hty _ d⟩
     ·rw [if_neg h4,if_neg h4]
      refine ⟨fun n e=>(by cases e),fun a' e=>?_⟩
      cases e
      exact ⟨_,rfl,h.same ty hb rfl rfl hcm⟩
theorem exists_list {α:Type}(P:Nat→α→Prop):∀ n,(∀ i,i < n→∃ x,P i x)→∃ l:List α,l.length=n∧∀ i x,l[i]?=some x→P i x
 | 0,_=>⟨[],rfl,fun i x h=>by simp at h⟩
 | n+1,h=>by
  obtain ⟨l,hl,hp⟩:=exists_list P n (fun i hi=>h i (by omega))
  obtain ⟨x,hx⟩:=h n (by omega)
  refine ⟨l++[x],by simp [hl],fun i y hi=>?_⟩
  by_cases hlt:i < l.length
  ·rw [List.getElem?_append_left hlt] at hi
   exact hp i y hi
  ·rw [List.getElem?_append_right (by omega)] at hi
   have h0:i - l.length=0:=by have:=(List.getElem?_eq_some_iff.1 hi).1; simpa using this
   rw [h0] at hi
   simp at hi
   subst hi
   have:i=n:=by omega
   rw [this]
   exact hx
theorem own_other {w w':World}{B B' e e' size size' n n' g c:Nat}{v:Value}{xs xs':List Value}(h:w.ownsRow B e size v n xs)(h':w.ownsRow B' e' size' (.slice (some ⟨g,0,none⟩) n' c) n' xs')(hne:e≠e')(hk:Keeps (fun b=>b=g) w w'):w'.ownsRow B e size v n xs:=by
 refine ⟨h.1,?_⟩
 rcases h.2 with hh | ⟨g2,cap,cur,e1,hb,hc,rest⟩
 ·exact .inl hh
 ·refine .inr ⟨g2,cap,cur,e1,hb,?_,rest⟩
  rw [hk.block g2 (Array.getElem?_eq_some_iff.1 hc).1 (fun h9=>by
   have:=own_apart h h' hne g2 (by rw [e1]; rfl)
   exact this (by rw [h9]; rfl))]
  exact hc
theorem raws_sort {w:World}{B:Nat}{p:Option Addr}{c:Nat}{rs S:List (Int×Int×List Nat)}(h:OwnRaws w B (.slice p rs.length c) rs)(hl:rs.length≤100000)(hS:S.Perm rs)(hup:S.Pairwise fun x y=>x.2.1 < y.2.1) :
  Calls Tryz.prog 72 #[.slice p rs.length c,.func (.func 73) #[] #[]] w fun e w'=>e=.returned (.tuple #[])∧OwnRaws w' B (.slice p rs.length c) S∧∃ g,B≤g∧Keeps (fun b=>b=g) w w'∧∀ (e' size' n':Nat) (v:Value) (xs:List Value),e'≠104→w.ownsRow B e' size' v n' xs→w'.ownsRow B e' size' v n' xs:=by
 by_cases h0:rs=[]
 ·subst h0
  have hS0:S=[]:=List.perm_nil.1 hS
  subst hS0
  refine (sort_none p c w).mono ?_
  rintro e w' ⟨rfl,rfl⟩
  exact ⟨rfl,h,B,Nat.le_refl _,Keeps.refl _ _,fun _ _ _ _ _ _ h9=>h9⟩
 ·have hpos:0 < rs.length:=List.length_pos_iff.2 h0
  obtain ⟨cs,ho,hc⟩:=h
  obtain ⟨g,hp⟩:∃ g,p=some ⟨g,0,none⟩:=by
   rcases ho.2 with ⟨_,e⟩ | ⟨g,cap,cur,e,_⟩
   ·omega
   ·simp only [Value.slice.injEq] at e
    exact ⟨g,e.1⟩
  subst hp
  have hgB:B≤g:=(own_block ho g rfl).1
  obtain ⟨Z,hZl,hZ⟩:=exists_list (fun i (z:RE×(Int×Int×List Nat))=>rs[i]?=some z.2∧z.1.1=z.2.1∧z.1.2.1=z.2.2.1∧cs[i * 3]?=some (.int .i64 z.1.1)∧cs[i * 3+1]?=some (.int .i64 z.1.2.1)∧cs[i * 3+2]?=some (.slice z.1.2.2.1 z.1.2.2.2.1 z.1.2.2.2.2)∧w.ownsRow B 5 1 (.slice z.1.2.2.1 z.1.2.2.2.1 z.1.2.2.2.2) z.2.2.2.length (bcells z.2.2.2)) rs.length (fun i hi=>by
   obtain ⟨h1,h2,u,h3,h4⟩:=hc i _ (List.getElem?_eq_getElem hi)
   obtain ⟨a',c',rfl⟩:=own_shape h4
   exact ⟨((rs[i].1,rs[i].2.1,a',rs[i].2.2.length,c'),rs[i]),List.getElem?_eq_getElem hi,rfl,rfl,h1,h2,h3,h4⟩)
  have hfst:∀ i x,(Z.map fun z=>z.1)[i]?=some x→∃ z:RE×(Int×Int×List Nat),Z[i]?=some z∧z.1=x:=fun i x hx=>by
   rw [List.getElem?_map] at hx
   cases hz:Z[i]? with
   | none=>rw [hz] at hx; cases hx
   | some z=>rw [hz] at hx; exact ⟨z,hz,Option.some.inj hx⟩
  have hR:RowsE cs (Z.map fun z=>z.1):=fun i x hx=>by
   obtain ⟨z,hz,rfl⟩:=hfst i x hx
   obtain ⟨_,_,_,g1,g2,g3,_⟩:=hZ i z hz
   exact ⟨g1,g2,g3⟩
  have hsnd:(Z.map fun z=>z.2)=rs:=by
   apply List.ext_getElem?
   intro i
   rw [List.getElem?_map]
   by_cases hi:i < Z.length
   ·rw [List.getElem?_eq_getElem hi,(hZ i _ (List.getElem?_eq_getElem hi)).1]; rfl
   ·rw [List.getElem?_eq_none (by omega),List.getElem?_eq_none (by omega)]; rfl
  refine (sort_row (Z.map fun z=>z.1) B g rs.length c cs w ho (by rw [List.length_map]; exact hZl) hR hl).mono ?_
  rintro e w' ⟨rfl,d',cs',hperm,hsort,ho',hR',hk⟩
  obtain ⟨Z',hZp,e1,e2⟩:=sort_lift (fun x:RE=>x.2.1) (fun r:Int×Int×List Nat=>r.2.1) d' Z hperm hsort (fun z hz=>by
   obtain ⟨i,hi,rfl⟩:=List.mem_iff_getElem.1 hz
   exact (hZ i _ (List.getElem?_eq_getElem hi)).2.2.1) S (by rw [hsnd]; exact hS) hup
  have hSl:S.length=rs.length:=hS.length_eq
  refine ⟨rfl,⟨cs',by rw [hSl]; exact ho',fun i r hr=>?_⟩,g,hgB,hk,fun e' size' n' v xs hne h9=>own_other h9 ho hne hk⟩
  rw [← e2,List.getElem?_map] at hr
  cases hz:Z'[i]? with
  | none=>rw [hz] at hr; cases hr
  | some z =>
   rw [hz] at hr
   have ez:z.2=r:=Option.some.inj hr
   have hzm:z∈Z:=hZp.mem_iff.1 (List.mem_of_getElem? hz)
   obtain ⟨j,hj,ej⟩:=List.mem_iff_getElem.1 hzm
   obtain ⟨_,q1,q2,_,_,_,q6⟩:=hZ j z (by rw [List.getElem?_eq_getElem hj,ej])
   obtain ⟨g1,g2,g3⟩:=hR' i z.1 (by rw [← e1,List.getElem?_map,hz]; rfl)
   rw [← ez]
   exact ⟨by rw [g1,q1],by rw [g2,q2],_,g3,own_other q6 ho (by decide) hk⟩
theorem box_sort {w:World}{X B:Nat}{x b:At}{seen:List Nat}{p:Option Addr}{c:Nat}(h:Box w X B x)(hr:Rel x b seen)(hl:x.raws.length≤100000)(hv:w.cell? ⟨X,6,none⟩=some (.slice p x.raws.length c)) :
  Calls Tryz.prog 72 #[.slice p x.raws.length c,.func (.func 73) #[] #[]] w fun e w'=>e=.returned (.tuple #[])∧Box w' X B b∧Keeps (NotBox X B) w w':=by
 obtain ⟨p6,k6,q6,o6⟩:=h.c6
 rw [hv] at q6
 simp only [Option.some.injEq,Value.slice.injEq,true_and] at q6
 obtain ⟨rfl,rfl⟩:=q6
 refine (raws_sort o6 hl hr.perm hr.up).mono ?_
 rintro e w' ⟨rfl,hO,g,hg,hk,hoth⟩
 have hXB:=h.lt
 have hX:=h.pos
 have cX:∀ j,w'.cell? ⟨X,j,none⟩=w.cell? ⟨X,j,none⟩:=fun j=>hk.cell ⟨X,j,none⟩ hX (fun e=>by simp only at e; omega)
 have fX:∀ j,w'.frozen? ⟨X,j,none⟩=false:=fun j=>by
  rw [World.frozen?_of_block (w:=w) (hk.block X hX (fun e=>by omega))]
  exact h.fz j
 obtain ⟨p1,k1,q1,o1⟩:=h.c1
 obtain ⟨p5,k5,q5,o5⟩:=h.c5
 have oP:OwnPath w' B (.slice p1 x.path.length k1) x.path:=by
  obtain ⟨cs,ho,hc⟩:=o1
  refine ⟨cs,hoth _ _ _ _ _ (by decide) ho,fun i s hi=>?_⟩
  obtain ⟨g1,u,g2,g3⟩:=hc i s hi
  exact ⟨g1,u,g2,hoth _ _ _ _ _ (by decide) g3⟩
 have eb:=hr.eq
 have hlen:b.raws.length=x.raws.length:=hr.perm.length_eq
 refine ⟨rfl,?_,⟨hk.os,hk.tape,hk.output,hk.size,fun k hk2 hn=>hk.block k hk2 (fun e=>hn (.inr (by omega)))⟩⟩
 rw [eb]
 exact ⟨by rw [cX]; exact h.c0,⟨p1,k1,by rw [cX]; exact q1,oP⟩,by rw [cX]; exact h.c2,by rw [cX]; exact h.c3,by rw [cX]; exact h.c4,⟨p5,k5,by rw [cX]; exact q5,hoth _ _ _ _ _ (by decide) o5⟩,⟨p,c,by rw [cX]; show _=some (Value.slice p b.raws.length c); rw [hlen]; exact hv,by show OwnRaws w' B (.slice p b.raws.length c) b.raws; rw [hlen]; exact hO⟩,fX,hXB⟩
def Stood (w:World)(Y:Nat)(seen:List Nat):Prop:=∀ i,i < 256→w.cell? ⟨Y,i,none⟩=some (.bool (decide (i∈seen)))∧w.frozen? ⟨Y,i,none⟩=false
theorem Stood.keeps {F:Nat→Prop}{w w':World}{Y:Nat}{seen:List Nat}(h:Stood w Y seen)(hk:Keeps F w w')(hF:¬ F Y):Stood w' Y seen:=fun i hi=>by
 have hY:=World.block_lt_of_cell? w _ (h i hi).1
 simp only at hY
 exact ⟨by rw [hk.cell ⟨Y,i,none⟩ hY hF]; exact (h i hi).1,by rw [World.frozen?_of_block (w:=w) (hk.block Y hY hF)]; exact (h i hi).2⟩
theorem Stood.put {w:World}{Y:Nat}{seen:List Nat}(h:Stood w Y seen)(t:Nat)(ht:t < 256):Stood (w.setCell ⟨Y,t,none⟩ (.bool true)) Y (t :: seen):=fun i hi=>by
 refine ⟨?_,by rw [World.frozen?_setCell]; exact (h i hi).2⟩
 by_cases e:i=t
 ·subst e
  rw [World.cell?_setCell_same _ _ _ (h i hi).1]
  simp
 ·rw [World.cell?_setCell_other _ _ _ _ (by intro e9; injection e9 with _ e2 _; exact e e2.symm),(h i hi).1]
  congr 2
  rw [Bool.eq_iff_iff]
  simp only [decide_eq_true_eq,List.mem_cons]
  constructor
  ·exact fun h9=>.inr h9
  ·rintro (h9 | h9)
   ·exact absurd h9 e
   ·exact h9
theorem infoSeen:(Tryz.prog.info? 99).map (fun i=>(i.zero,i.size,i.bytes))=some (some (.agg (Array.replicate 256 (.bool false))),256,256):=by kernel_rfl
theorem run_alloc_seen (w:World):(Instr.alloc 99 true (.tuple #[])).run Tryz.prog w=.ok (.pointer (some ⟨w.heap.size,0,none⟩)) (w.alloc (.cells (Array.replicate 256 (.bool false)) 99)):=by
 obtain ⟨i0,hi0,hz0,_,_⟩:=info_parts infoSeen
 simp [Instr.alloc,zeroValue,typeInfo,hi0,hz0,newVar,newRow,Value.cells]
theorem stood_new (w:World):Stood (w.alloc (.cells (Array.replicate 256 (.bool false)) 99)) w.heap.size []:=fun i hi=>by
 refine ⟨?_,by simp [go_sem]⟩
 rw [World.cell?_alloc_mark,Array.getElem?_replicate,if_pos hi]
 simp
def DecA (w w':World)(r:Res)(e:Ending):Prop :=
 match r with
 | .inl n=>∃ a9 c9,e=.returned (.tuple #[.agg #[.int .i64 0,.slice none 0 0,.int .u32 0,.int .i64 0,.int .i64 0,.slice none 0 0,.slice none 0 0],.agg #[.int .i64 3,.int .i64 (n.2.1:Int),.slice a9 n.2.2.length c9]])∧w'.ownsRow w.heap.size 5 1 (.slice a9 n.2.2.length c9) n.2.2.length (bcells n.2.2)
 | .inr b=>∃ p1 k1 p5 k5 p6 k6,e=.returned (.tuple #[atV p1 k1 p5 k5 p6 k6 b,.agg #[.int .i64 0,.int .i64 0,.slice none 0 0]])∧OwnPath w' w.heap.size (.slice p1 b.path.length k1) b.path∧w'.ownsRow w.heap.size 24 1 (.slice p5 b.comms.length k5) b.comms.length (ucells b.comms)∧OwnRaws w' w.heap.size (.slice p6 b.raws.length k6) b.raws
structure NBox (w:World) (N:Nat):Prop where
 c0:w.cell? ⟨N,0,none⟩=some (.int .i64 0)
 c1:w.cell? ⟨N,1,none⟩=some (.int .i64 0)
 c2:w.cell? ⟨N,2,none⟩=some (.slice none 0 0)
 fz:∀ j,w.frozen? ⟨N,j,none⟩=false
theorem NBox.keeps {F:Nat→Prop}{w w':World}{N:Nat}(h:NBox w N)(hk:Keeps F w w')(hF:¬ F N):NBox w' N:=by
 have hN:=World.block_lt_of_cell? w _ h.c0
 simp only at hN
 exact ⟨by rw [hk.cell ⟨N,0,none⟩ hN hF]; exact h.c0,by rw [hk.cell ⟨N,1,none⟩ hN hF]; exact h.c1,by rw [hk.cell ⟨N,2,none⟩ hN hF]; exact h.c2,fun j=>by rw [World.frozen?_of_block (w:=w) (hk.block N hN hF)]; exact h.fz j⟩
structure DecSt (bs:List Nat) (w wq:World) (rem:List Nat) (a':Option Addr) (x b:At) (seen:List Nat):Prop where
 rd:BRd wq a' rem
 low:∀ ad,a'=some ad→0 < rem.length→ad.block < w.heap.size
 cnt:rem.length+3 * seen.length≤bs.length
 box:Box wq w.heap.size (w.heap.size+3) x
 note:NBox wq (w.heap.size+1)
 stood:Stood wq (w.heap.size+1+1) seen
 rel:Rel x b seen
 run:readA bs=runA rem b seen
 bel:Below w.heap.size w wq
 sz:w.heap.size+3≤wq.heap.size
theorem dec_start (a:Option Addr)(bs:List Nat)(w:World)(h:BRd w a bs):DecSt bs w (((w.alloc (.cells #[.int .i64 0,.slice none 0 0,.int .u32 0,.int .i64 (-1),.int .i64 (-1),.slice none 0 0,.slice none 0 0] 34)).alloc (.cells #[.int .i64 0,.int .i64 0,.slice none 0 0] 38)).alloc (.cells (Array.replicate 256 (.bool false)) 99)) bs a ⟨0,[],0,-1,-1,[],[]⟩ ⟨0,[],0,-1,-1,[],[]⟩ []:=by
 have hb:Below w.heap.size w (((w.alloc (.cells #[.int .i64 0,.slice none 0 0,.int .u32 0,.int .i64 (-1),.int .i64 (-1),.slice none 0 0,.slice none 0 0] 34)).alloc (.cells #[.int .i64 0,.int .i64 0,.slice none 0 0] 38)).alloc (.cells (Array.replicate 256 (.bool false)) 99)):=(((Below.refl _ _).alloc (Nat.le_refl _) _).alloc (by simp) _).alloc (by simp; omega) _
 have c:∀ (j:Nat) (v:Value),#[Value.int .i64 0,.slice none 0 0,.int .u32 0,.int .i64 (-1),.int .i64 (-1),.slice none 0 0,.slice none 0 0][j]?=some v→(((w.alloc (.cells #[.int .i64 0,.slice none 0 0,.int .u32 0,.int .i64 (-1),.int .i64 (-1),.slice none 0 0,.slice none 0 0] 34)).alloc (.cells #[.int .i64 0,.int .i64 0,.slice none 0 0] 38)).alloc (.cells (Array.replicate 256 (.bool false)) 99)).cell? ⟨w.heap.size,j,none⟩=some v:=fun j v hj=>by
  rw [World.cell?_alloc_old _ _ _ (by simp; omega),World.cell?_alloc_old _ _ _ (by simp),World.cell?_alloc_mark]
  exact hj
 refine ⟨h.below hb,fun ad he hp=>h.1.lt ad he hp,by simp,⟨c 0 _ rfl,⟨none,0,c 1 _ rfl,OwnPath.nil _ _⟩,c 2 _ rfl,c 3 _ rfl,c 4 _ rfl,⟨none,0,c 5 _ rfl,own_nil _ _ _ _⟩,⟨none,0,c 6 _ rfl,OwnRaws.nil _ _⟩,fun j=>by simp [go_sem],by omega⟩,⟨by simp [go_sem],by simp [go_sem],by simp [go_sem],fun j=>by simp [go_sem]⟩,?_,⟨rfl,List.Perm.refl _,List.Pairwise.nil,fun r hr=>by simp at hr,fun _=>rfl,Nat.le_refl _⟩,rfl,hb,by simp⟩
 have:=stood_new ((w.alloc (.cells #[.int .i64 0,.slice none 0 0,.int .u32 0,.int .i64 (-1),.int .i64 (-1),.slice none 0 0,.slice none 0 0] 34)).alloc (.cells #[.int .i64 0,.int .i64 0,.slice none 0 0] 38))
 simpa using this
theorem box_cells {w:World}{X B:Nat}{a:At}(h:Box w X B a):∀ j,j < 7→∃ v,w.cell? ⟨X,j,none⟩=some v:=fun j hj=>by
 obtain ⟨p1,k1,q1,_⟩:=h.c1
 obtain ⟨p5,k5,q5,_⟩:=h.c5
 obtain ⟨p6,k6,q6,_⟩:=h.c6
 rcases (by omega:j=0∨j=1∨j=2∨j=3∨j=4∨j=5∨j=6) with rfl | rfl | rfl | rfl | rfl | rfl | rfl
 ·exact ⟨_,h.c0⟩
 ·exact ⟨_,q1⟩
 ·exact ⟨_,h.c2⟩
 ·exact ⟨_,h.c3⟩
 ·exact ⟨_,h.c4⟩
 ·exact ⟨_,q5⟩
 ·exact ⟨_,q6⟩
theorem nbox_cells {w:World}{N:Nat}(h:NBox w N):∀ j,j < 3→∃ v,w.cell? ⟨N,j,none⟩=some v:=fun j hj=>by
 rcases (by omega:j=0∨j=1∨j=2) with rfl | rfl | rfl
 ·exact ⟨_,h.c0⟩
 ·exact ⟨_,h.c1⟩
 ·exact ⟨_,h.c2⟩
set_option maxHeartbeats 1600000 in
/-- What is thrown within Decode is what it answers. -/
theorem dec_throw {bs:List Nat}{w w2:World}{T:Array Value}{x:At}{s:Nat}{d:List Nat}{a9:Option Addr}{c9 n:Nat}(h2:T[2]?=some (.pointer (some ⟨w.heap.size,0,none⟩)))(h3:T[3]?=some (.pointer (some ⟨w.heap.size+1,0,none⟩)))
  (hn:d.length=n) (ho:w2.ownsRow (w.heap.size+3) 5 1 (.slice a9 n c9) n (bcells d)) (hx:Box w2 w.heap.size (w.heap.size+3) x) (hnb:NBox w2 (w.heap.size+1)) (hb:Below w.heap.size w w2) (hr:readA bs=.inl (3,s,d)) :
  bodyPostD Tryz.prog Tryz.f46 (fun e w'=>DecA w w' (readA bs) e∧Below w.heap.size w w') (.panic [{ v:=.iface 122 (.agg #[.int .i64 3,.int .i64 (s:Int),.slice a9 n c9]),recovered:=false }]) { tmps:=T,defers:=[{ target:=.fn (.func 68) #[.pointer (some ⟨w.heap.size,0,none⟩),.pointer (some ⟨w.heap.size+1,0,none⟩)],args:=#[] }] } w2:=by
 refine leaves_cons (f:=68) (args:=#[.pointer (some ⟨w.heap.size,0,none⟩),.pointer (some ⟨w.heap.size+1,0,none⟩)]) (by simp) (by simp [go_sem]) ?_
 refine (catch_throw w.heap.size (w.heap.size+1) (s:Int) a9 n c9 w2 (by omega) (box_cells hx) hx.fz (nbox_cells hnb) hnb.fz).mono ?_
 rintro e u' w3 ⟨rfl,rfl,hk,hcx,hcn⟩
 have q0:=hcx 0 _ rfl
 have q1:=hcx 1 _ rfl
 have q2:=hcx 2 _ rfl
 have q3:=hcx 3 _ rfl
 have q4:=hcx 4 _ rfl
 have q5:=hcx 5 _ rfl
 have q6:=hcx 6 _ rfl
 have m0:=hcn 0 _ rfl
 have m1:=hcn 1 _ rfl
 have m2:=hcn 2 _ rfl
 have ho3:w3.ownsRow w.heap.size 5 1 (.slice a9 n c9) n (bcells d):=own_base (own_keeps ho hk (fun k h9=>by rcases h9 with h9 | h9 <;> omega)) (by omega)
 have hb3:Below w.heap.size w w3:=⟨hk.os.trans hb.os,hk.tape.trans hb.tape,hk.output.trans hb.output,Nat.le_trans hb.size hk.size,fun k hk9=>by rw [hk.block k (Nat.lt_of_lt_of_le hk9 hb.size) (fun h9=>by rcases h9 with h9 | h9 <;> omega)]; exact hb.block k hk9⟩
 subst hn
 have HZ:Hid (DecA w w3 (readA bs) (.returned (.tuple #[.agg #[.int .i64 0,.slice none 0 0,.int .u32 0,.int .i64 0,.int .i64 0,.slice none 0 0,.slice none 0 0],.agg #[.int .i64 3,.int .i64 (s:Int),.slice a9 d.length c9]]))∧Below w.heap.size w w3):=⟨by rw [hr]; exact ⟨a9,c9,rfl,ho3⟩,hb3⟩
 simp [Leaves,settle,results,Tryz.results46,go_sem,h2,h3,q0,q1,q2,q3,q4,q5,q6,m0,m1,m2]
 exact HZ.out
set_option maxHeartbeats 1600000 in
/-- What was read is what Decode answers. -/
theorem dec_return {bs:List Nat}{w w2:World}{T:Array Value}{b:At}{p1:Option Addr}{k1:Nat}{p5:Option Addr}{k5:Nat}{p6:Option Addr}{k6 n1 n5 n6:Nat}(h2:T[2]?=some (.pointer (some ⟨w.heap.size,0,none⟩)))(h3:T[3]?=some (.pointer (some ⟨w.heap.size+1,0,none⟩)))
  (q0:w2.cell? ⟨w.heap.size,0,none⟩=some (.int .i64 b.origin)) (q1:w2.cell? ⟨w.heap.size,1,none⟩=some (.slice p1 n1 k1)) (q2:w2.cell? ⟨w.heap.size,2,none⟩=some (.int .u32 (b.next:Int))) (q3:w2.cell? ⟨w.heap.size,3,none⟩=some (.int .i64 b.med)) (q4:w2.cell? ⟨w.heap.size,4,none⟩=some (.int .i64 b.pref)) (q5:w2.cell? ⟨w.heap.size,5,none⟩=some (.slice p5 n5 k5)) (q6:w2.cell? ⟨w.heap.size,6,none⟩=some (.slice p6 n6 k6))
  (m0:w2.cell? ⟨w.heap.size+1,0,none⟩=some (.int .i64 0)) (m1:w2.cell? ⟨w.heap.size+1,1,none⟩=some (.int .i64 0)) (m2:w2.cell? ⟨w.heap.size+1,2,none⟩=some (.slice none 0 0))
  (hz:DecA w w2 (readA bs) (.returned (.tuple #[.agg #[.int .i64 b.origin,.slice p1 n1 k1,.int .u32 (b.next:Int),.int .i64 b.med,.int .i64 b.pref,.slice p5 n5 k5,.slice p6 n6 k6],.agg #[.int .i64 0,.int .i64 0,.slice none 0 0]]))) (hb:Below w.heap.size w w2) :
  bodyPostD Tryz.prog Tryz.f46 (fun e w'=>DecA w w' (readA bs) e∧Below w.heap.size w w') .ret { tmps:=T,defers:=[{ target:=.fn (.func 68) #[.pointer (some ⟨w.heap.size,0,none⟩),.pointer (some ⟨w.heap.size+1,0,none⟩)],args:=#[] }] } w2:=by
 refine leaves_cons (f:=68) (args:=#[.pointer (some ⟨w.heap.size,0,none⟩),.pointer (some ⟨w.heap.size+1,0,none⟩)]) (by simp) (by simp [go_sem]) ?_
 refine (catch_idle ⟨w.heap.size,0,none⟩ ⟨w.heap.size+1,0,none⟩ w2).mono ?_
 rintro e u' w3 ⟨rfl,rfl,rfl⟩
 have HZ:Hid (DecA w w3 (readA bs) (.returned (.tuple #[.agg #[.int .i64 b.origin,.slice p1 n1 k1,.int .u32 (b.next:Int),.int .i64 b.med,.int .i64 b.pref,.slice p5 n5 k5,.slice p6 n6 k6],.agg #[.int .i64 0,.int .i64 0,.slice none 0 0]]))∧Below w.heap.size w w3):=⟨hz,hb⟩
 clear hz hb
 simp [Leaves,settle,results,Tryz.results46,go_sem,h2,h3,q0,q1,q2,q3,q4,q5,q6,m0,m1,m2]
 exact HZ.out
theorem DecSt.later {bs:List Nat}{w wq wq':World}{rem:List Nat}{a':Option Addr}{x b:At}{seen:List Nat}(h:DecSt bs w wq rem a' x b seen)(hb:Below wq.heap.size wq wq'):DecSt bs w wq' rem a' x b seen :=
 ⟨h.rd.below hb,h.low,h.cnt,h.box.later hb,h.note.keeps (Keeps.of_below hb (fun _=>False)) id,h.stood.keeps (Keeps.of_below hb (fun _=>False)) id,h.rel,h.run,h.bel.trans (hb.mono h.bel.size),Nat.le_trans h.sz hb.size⟩
theorem applyQ_three {a:At}{fl ty:Nat}{d all:List Nat}{n:Nat×Nat×List Nat}(h:applyQ a fl ty d all=.inl n):n.1=3:=by
 unfold applyQ at h
 repeat (first | (split at h) | (cases h; rfl) | (cases h))
theorem fitsL_eq (bs seen:List Nat):fitsL bs seen=decide (headL (bs.getD 0 0)≤bs.length∧headL (bs.getD 0 0)+sizeL bs≤bs.length∧bs.getD 1 0 ∉ seen):=rfl
def InBlk (a ad:Option Addr):Prop:=∀ y,ad=some y→∃ z,a=some z∧y.block=z.block
def FirstIn (a:Option Addr)(w w':World)(bs:List Nat)(e:Ending):Prop :=
 ∃ a1 k1 a2 k2 a3 k3,e=.returned (.tuple #[.agg #[.int .i64 (bs.getD 0 0:Int),.int .i64 (bs.getD 1 0:Int),.slice a1 (sizeL bs) k1,.slice a2 (headL (bs.getD 0 0)+sizeL bs) k2],.slice a3 (bs.length - (headL (bs.getD 0 0)+sizeL bs)) k3])∧BRd w a1 ((bs.drop (headL (bs.getD 0 0))).take (sizeL bs))∧sizeL bs≤k1∧BRd w a2 (bs.take (headL (bs.getD 0 0)+sizeL bs))∧BRd w a3 (bs.drop (headL (bs.getD 0 0)+sizeL bs))∧bs.length - (headL (bs.getD 0 0)+sizeL bs)≤k3∧(0 < sizeL bs→InBlk a a1)∧InBlk a a2∧(headL (bs.getD 0 0)+sizeL bs < bs.length→InBlk a a3)∧Below w.heap.size w w'
theorem first_in (a:Option Addr)(c:Nat)(bs:List Nat)(w:World)(hp:0 < bs.length)(hl:bs.length≤20000)(hc:bs.length≤c)(h:BRd w a bs)(hfit:headL (bs.getD 0 0)+sizeL bs≤bs.length) :
  Calls Tryz.prog 69 #[.slice a bs.length c] w fun e w'=>FirstIn a w w' bs e:=by
 obtain ⟨b,o,rfl,hcell,hlt⟩:=h.cells hp
 have inb:∀ (off:Nat) (ad:Option Addr),ad=some ⟨b,off,none⟩→InBlk (some ⟨b,o,none⟩) ad:=fun off ad e y hy=>⟨_,rfl,by rw [e] at hy; cases hy; rfl⟩
 by_cases hx:bs.getD 0 0 / 16 % 2=1
 ·have e1:headL (bs.getD 0 0)=4:=by unfold headL; rw [if_pos hx]
  have e2:sizeL bs=256 * bs.getD 2 0+bs.getD 3 0:=by unfold sizeL; rw [if_pos hx]
  rw [e1] at hfit
  refine (first4 b o bs.length c _ _ _ _ (sizeL bs) w hc hl (hlt 0) (hlt 1) (hlt 2) (hlt 3) e2.symm hx hfit (hcell 0 hp) (hcell 1 (by omega)) (hcell 2 (by omega)) (hcell 3 (by omega))).mono ?_
  rintro e w' ⟨a1,k1,a3,k3,he,q1,q2,q3,q4,hb⟩
  unfold FirstIn
  rw [e1]
  exact ⟨a1,k1,_,c,a3,k3,he,h.piece 4 _ hfit a1 q1,q2,h.ahead _ hfit,h.behind _ hfit a3 q3,q4,fun h9=>inb _ _ (q1 h9),inb _ _ rfl,fun h9=>inb _ _ (q3 h9),hb⟩
 ·have e1:headL (bs.getD 0 0)=3:=by unfold headL; rw [if_neg hx]
  have e2:sizeL bs=bs.getD 2 0:=by unfold sizeL; rw [if_neg hx]
  rw [e1] at hfit
  refine (first3 b o bs.length c _ _ (sizeL bs) w hc hl (hlt 0) (hlt 1) (by rw [e2]; exact hlt 2) (by omega) hfit (hcell 0 hp) (hcell 1 (by omega)) (by rw [e2]; exact hcell 2 (by omega))).mono ?_
  rintro e w' ⟨a1,k1,a3,k3,he,q1,q2,q3,q4,hb⟩
  unfold FirstIn
  rw [e1]
  exact ⟨a1,k1,_,c,a3,k3,he,h.piece 3 _ hfit a1 q1,q2,h.ahead _ hfit,h.behind _ hfit a3 q3,q4,fun h9=>inb _ _ (q1 h9),inb _ _ rfl,fun h9=>inb _ _ (q3 h9),hb⟩
theorem brd_low {w w':World}{X:Nat}{a:Option Addr}{d:List Nat}(h:BRd w a d)(hlow:∀ y,a=some y→0 < d.length→y.block < X)(hsame:∀ k,k < X→w'.heap[k]?=w.heap[k]?):BRd w' a d:=by
 refine ⟨⟨h.1.1,fun hp=>?_⟩,h.2⟩
 obtain ⟨b,o,e,hc⟩:=h.1.2 hp
 refine ⟨b,o,e,fun i hi=>?_⟩
 rw [World.cell?_of_block (w:=w) (hsame b (hlow _ e hp))]
 exact hc i hi
theorem box_above {w:World}{X B Y:Nat}{a:At}(h:Box w X B a)(hY:X < Y∧Y < B)(j:Nat)(v:Value):Box (w.setCell ⟨Y,j,none⟩ v) X B a:=by
 have e:∀ k,(w.setCell ⟨Y,j,none⟩ v).cell? ⟨X,k,none⟩=w.cell? ⟨X,k,none⟩:=fun k=>World.cell?_setCell_other _ _ _ _ (by intro e9; injection e9 with e2 _ _; omega)
 obtain ⟨p1,k1,g1,o1⟩:=h.c1
 obtain ⟨p5,k5,g5,o5⟩:=h.c5
 obtain ⟨p6,k6,g6,o6⟩:=h.c6
 exact ⟨by rw [e]; exact h.c0,⟨p1,k1,by rw [e]; exact g1,o1.under hY.2 _ _⟩,by rw [e]; exact h.c2,by rw [e]; exact h.c3,by rw [e]; exact h.c4,⟨p5,k5,by rw [e]; exact g5,own_under o5 hY.2 _ _⟩,⟨p6,k6,by rw [e]; exact g6,o6.under hY.2 _ _⟩,fun k=>by rw [World.frozen?_setCell]; exact h.fz k,h.lt⟩
theorem below_box {w w4 w5:World}(h:Below w.heap.size w w4)(hk:Keeps (NotBox w.heap.size (w.heap.size+3)) w4 w5)(hs:w.heap.size+3≤w4.heap.size):Below w.heap.size w w5 :=
 ⟨hk.os.trans h.os,hk.tape.trans h.tape,hk.output.trans h.output,Nat.le_trans h.size hk.size,fun k hk9=>by rw [hk.block k (by omega) (by unfold NotBox; omega)]; exact h.block k hk9⟩
set_option maxHeartbeats 6400000 in
theorem decode_any (a:Option Addr)(c:Nat)(bs:List Nat)(w:World)(hS:Said w)(hl:bs.length≤10000)(hc:bs.length≤c)(h:BRd w a bs) :
  Calls Tryz.prog 46 #[.slice a bs.length c] w fun e w'=>DecA w w' (readA bs) e∧Below w.heap.size w w':=by
 have hmf:∀ (fn:Fn) (first cap:Array Value) (w:World),(Instr.makeFunc fn first cap).run Tryz.prog w=.ok (.func fn first cap) w:=fun _ _ _ _=>rfl
 have HS:=hide hS
 have H:=hide h
 clear h hS
 generalize hbl:bs.length=bl at *
 go_enter_defers Tryz.func46,Tryz.ntmps46
 go_wp2_with (with_reducible refine wpl_alloc 99 _ (run_alloc_seen _) ?_)
 simp only [Act.put,List.setIfInBounds_toArray,List.set_cons_zero,List.set_cons_succ,World.size_alloc]
 have HD0:=hide (dec_start a bs w H.out)
 go_loopw [0] (fun v wq=>∃ rem a' c' x b seen,v=.slice a' rem.length c'∧rem.length≤c'∧Hid (DecSt bs w wq rem a' x b seen)) (fun v _=>sliceLen v)
 case atStart=>exact ⟨bs,a,c,_,_,_,by rw [hbl],by omega,HD0⟩
 case round =>
  clear HD0
  obtain ⟨rem,a',c',x,b,seen,rfl,hrc,HD⟩:=hrel
  have hcnt:=HD.out.cnt
  have hsz:=HD.out.sz
  rw [hbl] at hcnt
  by_cases hr0:0 < rem.length
  ·have HB1:=hide ((Below.refl wr.heap.size wr).alloc (Nat.le_refl _) (.cells #[.int .i64 0,.int .i64 0,.slice none 0 0,.slice none 0 0] 124))
   have hne0:rem≠[]:=List.length_pos_iff.1 hr0
   by_cases hfit:headL (rem.getD 0 0)≤rem.length∧headL (rem.getD 0 0)+sizeL rem≤rem.length
   ·have K:=hide (first_in a' c' rem (wr.alloc (.cells #[.int .i64 0,.int .i64 0,.slice none 0 0,.slice none 0 0] 124)) hr0 (by omega) hrc (HD.out.rd.below HB1.out) hfit.2)
    obtain ⟨hb0,hb1⟩:rem.getD 0 0 < 256∧rem.getD 1 0 < 256:=⟨brd_getD HD.out.rd 0,brd_getD HD.out.rd 1⟩
    have HGO:Hid (rem.getD 1 0 ∉ seen→readA bs=thenA (applyA b (rem.getD 0 0) (rem.getD 1 0) ((rem.drop (headL (rem.getD 0 0))).take (sizeL rem)) (rem.take (headL (rem.getD 0 0)+sizeL rem))) fun a'=>runA (rem.drop (headL (rem.getD 0 0)+sizeL rem)) a' (rem.getD 1 0 :: seen)):=fun hns=>by
     rw [HD.out.run,runA_go hne0 (by rw [fitsL_eq]; exact decide_eq_true ⟨hfit.1,hfit.2,hns⟩)]
    have HNO:Hid (rem.getD 1 0∈seen→readA bs=.inl (3,1,[])):=fun hns=>by
     rw [HD.out.run,runA_no hne0 (by rw [fitsL_eq]; exact decide_eq_false (fun h9=>h9.2.2 hns))]
    have hh3:=headL_pos (rem.getD 0 0)
    have hld:((rem.drop (headL (rem.getD 0 0))).take (sizeL rem)).length=sizeL rem:=by rw [List.length_take,List.length_drop]; omega
    have hla:(rem.take (headL (rem.getD 0 0)+sizeL rem)).length=headL (rem.getD 0 0)+sizeL rem:=by rw [List.length_take]; omega
    have hlr:(rem.drop (headL (rem.getD 0 0)+sizeL rem)).length=rem.length - (headL (rem.getD 0 0)+sizeL rem):=by rw [List.length_drop]
    have hn1:sizeL rem≤10000:=by omega
    have hn2:headL (rem.getD 0 0)+sizeL rem≤rem.length:=hfit.2
    have hn3:3≤headL (rem.getD 0 0)+sizeL rem:=by omega
    unfold FirstIn at K
    generalize (rem.drop (headL (rem.getD 0 0))).take (sizeL rem)=d at *
    generalize rem.take (headL (rem.getD 0 0)+sizeL rem)=all at *
    generalize rem.drop (headL (rem.getD 0 0)+sizeL rem)=rest at *
    generalize headL (rem.getD 0 0)+sizeL rem=n2 at *
    generalize sizeL rem=n1 at *
    generalize rem.getD 0 0=fl at *
    generalize rem.getD 1 0=ty at *
    have HHD:=hide hfit
    clear hfit hh3
    have HRC:=hide hrc
    generalize hrl:rem.length=rl at *
    have hr1:(0:Int) < (rl:Int):=by omega
    go_wp2_with fail
    refine K.out.mono ?_
    rintro e w2 ⟨a1,k1,a2,k2,a3,k3,rfl,r1,hk1,r2,r3,hk3,l1,l2,l3,hb2⟩
    have HB2:Hid (Below wr.heap.size wr w2):=HB1.out.trans (hb2.mono (by simp))
    have hPs:wr.heap.size < w2.heap.size:=by have:=hb2.size; simp at this; omega
    have z0:w2.cell? ⟨wr.heap.size,0,none⟩=some (.int .i64 0):=by rw [hb2.cell (p:=⟨wr.heap.size,0,none⟩) (by simp)]; simp [go_sem]
    have z1:w2.cell? ⟨wr.heap.size,1,none⟩=some (.int .i64 0):=by rw [hb2.cell (p:=⟨wr.heap.size,1,none⟩) (by simp)]; simp [go_sem]
    have z2:w2.cell? ⟨wr.heap.size,2,none⟩=some (.slice none 0 0):=by rw [hb2.cell (p:=⟨wr.heap.size,2,none⟩) (by simp)]; simp [go_sem]
    have z3:w2.cell? ⟨wr.heap.size,3,none⟩=some (.slice none 0 0):=by rw [hb2.cell (p:=⟨wr.heap.size,3,none⟩) (by simp)]; simp [go_sem]
    have g0:w2.frozen? ⟨wr.heap.size,0,none⟩=false:=by rw [hb2.frozen (p:=⟨wr.heap.size,0,none⟩) (by simp)]; simp [go_sem]
    have g1:w2.frozen? ⟨wr.heap.size,1,none⟩=false:=by rw [hb2.frozen (p:=⟨wr.heap.size,1,none⟩) (by simp)]; simp [go_sem]
    have g2:w2.frozen? ⟨wr.heap.size,2,none⟩=false:=by rw [hb2.frozen (p:=⟨wr.heap.size,2,none⟩) (by simp)]; simp [go_sem]
    have g3:w2.frozen? ⟨wr.heap.size,3,none⟩=false:=by rw [hb2.frozen (p:=⟨wr.heap.size,3,none⟩) (by simp)]; simp [go_sem]
    have HD2:=hide (HD.out.later HB2.out)
    have cy:=(HD2.out.stood ty hb1).1
    have fy:=(HD2.out.stood ty hb1).2
    have hPY:wr.heap.size≠w.heap.size+1+1:=by omega
    have hYP:w.heap.size+1+1≠wr.heap.size:=by omega
    have HB3:Hid (Below wr.heap.size wr ((((w2.setCell ⟨wr.heap.size,0,none⟩ (.int .i64 (fl:Int))).setCell ⟨wr.heap.size,1,none⟩ (.int .i64 (ty:Int))).setCell ⟨wr.heap.size,2,none⟩ (.slice a1 n1 k1)).setCell ⟨wr.heap.size,3,none⟩ (.slice a2 n2 k2))):=(((HB2.out.setCell (Nat.le_refl _) _).setCell (Nat.le_refl _) _).setCell (Nat.le_refl _) _).setCell (Nat.le_refl _) _
    have hlowa:=HD.out.low
    rw [hrl] at hlowa
    have L1:Hid (∀ y,a1=some y→0 < d.length→y.block < w.heap.size):=fun y hy hp=>by
     obtain ⟨z,hz,e9⟩:=l1 (by rw [hld] at hp; exact hp) y hy
     rw [e9]; exact hlowa z hz hr0
    have L2:Hid (∀ y,a2=some y→0 < all.length→y.block < w.heap.size):=fun y hy _=>by
     obtain ⟨z,hz,e9⟩:=l2 y hy
     rw [e9]; exact hlowa z hz hr0
    have L3:Hid (∀ y,a3=some y→0 < rest.length→y.block < w.heap.size):=fun y hy hp=>by
     obtain ⟨z,hz,e9⟩:=l3 (by rw [hlr] at hp; omega) y hy
     rw [e9]; exact hlowa z hz hr0
    have hX1:w.heap.size < wr.heap.size:=by omega
    have S4:Hid (∀ k,k < w.heap.size→(((((w2.setCell ⟨wr.heap.size,0,none⟩ (.int .i64 (fl:Int))).setCell ⟨wr.heap.size,1,none⟩ (.int .i64 (ty:Int))).setCell ⟨wr.heap.size,2,none⟩ (.slice a1 n1 k1)).setCell ⟨wr.heap.size,3,none⟩ (.slice a2 n2 k2)).setCell ⟨w.heap.size+1+1,ty,none⟩ (.bool true)).heap[k]?=(wr.alloc (.cells #[.int .i64 0,.int .i64 0,.slice none 0 0,.slice none 0 0] 124)).heap[k]?):=fun k hk=>by
     rw [heap_setCell _ _ _ _ _ (by omega),heap_setCell _ _ _ _ _ (by omega),heap_setCell _ _ _ _ _ (by omega),heap_setCell _ _ _ _ _ (by omega),heap_setCell _ _ _ _ _ (by omega)]
     exact hb2.block k (by simp; omega)
    have R1:=hide (brd_low r1 L1.out S4.out)
    have R2:=hide (brd_low r2 L2.out S4.out)
    have R3:=hide (brd_low r3 L3.out S4.out)
    clear r1 r2 r3 l1 l2 l3 hlowa
    have i0:(0:Int)≤(ty:Int):=Int.natCast_nonneg _
    have i1:(ty:Int) < 256:=by omega
    clear hb2 HB1
    by_cases hseen:ty∈seen
    ·rw [decide_eq_true hseen] at cy
     have KT:Hid (∀ w1,Below wr.heap.size wr w1→Calls Tryz.prog 70 #[.int .i64 1,.slice none 0 0] w1 fun e w'=>Throws wr w' 1 [] e):=fun w1 hb=>throw_nil 1 wr w1 hb
     unfold Throws at KT
     unfold thrown at KT
     go_wp2_with fail
     refine (KT.out _ HB3.out).mono ?_
     rintro e w5 ⟨a9,c9,rfl,ho,hb5⟩
     have HD5:=hide (HD.out.later hb5)
     go_wp2
     exact dec_throw rfl rfl rfl (own_base ho hsz) HD5.out.box HD5.out.note HD5.out.bel (HNO.out hseen)
    ·rw [decide_eq_false hseen] at cy
     have HD3:=hide (HD.out.later HB3.out)
     have HX4:Hid (Box (((((w2.setCell ⟨wr.heap.size,0,none⟩ (.int .i64 (fl:Int))).setCell ⟨wr.heap.size,1,none⟩ (.int .i64 (ty:Int))).setCell ⟨wr.heap.size,2,none⟩ (.slice a1 n1 k1)).setCell ⟨wr.heap.size,3,none⟩ (.slice a2 n2 k2)).setCell ⟨w.heap.size+1+1,ty,none⟩ (.bool true)) w.heap.size (w.heap.size+3) x):=box_above HD3.out.box ⟨by omega,by omega⟩ _ _
     have HN4:Hid (NBox (((((w2.setCell ⟨wr.heap.size,0,none⟩ (.int .i64 (fl:Int))).setCell ⟨wr.heap.size,1,none⟩ (.int .i64 (ty:Int))).setCell ⟨wr.heap.size,2,none⟩ (.slice a1 n1 k1)).setCell ⟨wr.heap.size,3,none⟩ (.slice a2 n2 k2)).setCell ⟨w.heap.size+1+1,ty,none⟩ (.bool true)) (w.heap.size+1)):=HD3.out.note.keeps (F:=fun k=>k=w.heap.size+1+1) ((Keeps.refl _ _).setCell _ _ _ (.inl rfl)) (show ¬ (w.heap.size+1=w.heap.size+1+1) by omega)
     have HT4:Hid (Stood (((((w2.setCell ⟨wr.heap.size,0,none⟩ (.int .i64 (fl:Int))).setCell ⟨wr.heap.size,1,none⟩ (.int .i64 (ty:Int))).setCell ⟨wr.heap.size,2,none⟩ (.slice a1 n1 k1)).setCell ⟨wr.heap.size,3,none⟩ (.slice a2 n2 k2)).setCell ⟨w.heap.size+1+1,ty,none⟩ (.bool true)) (w.heap.size+1+1) (ty :: seen)):=HD3.out.stood.put ty hb1
     have HB4:Hid (Below w.heap.size w (((((w2.setCell ⟨wr.heap.size,0,none⟩ (.int .i64 (fl:Int))).setCell ⟨wr.heap.size,1,none⟩ (.int .i64 (ty:Int))).setCell ⟨wr.heap.size,2,none⟩ (.slice a1 n1 k1)).setCell ⟨wr.heap.size,3,none⟩ (.slice a2 n2 k2)).setCell ⟨w.heap.size+1+1,ty,none⟩ (.bool true))):=HD3.out.bel.setCell (show w.heap.size≤w.heap.size+1+1 by omega) _
     have hs4:w.heap.size+3≤(((((w2.setCell ⟨wr.heap.size,0,none⟩ (.int .i64 (fl:Int))).setCell ⟨wr.heap.size,1,none⟩ (.int .i64 (ty:Int))).setCell ⟨wr.heap.size,2,none⟩ (.slice a1 n1 k1)).setCell ⟨wr.heap.size,3,none⟩ (.slice a2 n2 k2)).setCell ⟨w.heap.size+1+1,ty,none⟩ (.bool true)).heap.size:=by simp; omega
     have KI:=hide (into_any fl ty a1 k1 a2 k2 d all w.heap.size (w.heap.size+3) x (((((w2.setCell ⟨wr.heap.size,0,none⟩ (.int .i64 (fl:Int))).setCell ⟨wr.heap.size,1,none⟩ (.int .i64 (ty:Int))).setCell ⟨wr.heap.size,2,none⟩ (.slice a1 n1 k1)).setCell ⟨wr.heap.size,3,none⟩ (.slice a2 n2 k2)).setCell ⟨w.heap.size+1+1,ty,none⟩ (.bool true)) (HS.out.below HB4.out) hb0 (by omega) (by rw [hld]; exact hk1) R1.out (by omega) R2.out L2.out HX4.out hs4 (by have:=HD.out.rel.cnt; omega))
     rw [hld,hla] at KI
     unfold partV at KI
     obtain ⟨hst1,hst2⟩:=rel_step HD.out.rel fl ty d all hseen (by omega)
     have HGO2:=hide (HGO.out hseen)
     cases happ:applyQ x fl ty d all with
     | inl nn =>
      rw [happ] at KI
      have HA:=hide (hst1 nn happ)
      have h3n:=applyQ_three happ
      obtain ⟨nc,ns,nd⟩:=nn
      simp only at h3n
      subst h3n
      have HRR:Hid (readA bs=.inl (3,ns,nd)):=by show readA bs=_; rw [HGO2.out,HA.out,thenA_no]
      unfold IntoRes ThrowsB thrown at KI
      simp only at KI
      generalize hnd:nd.length=ndl at *
      clear hst1 hst2
      go_wp2_with fail
      refine KI.out.mono ?_
      rintro e w5 ⟨a9,c9,rfl,ho,hk5,x5,hx5⟩
      have HN5:=hide (HN4.out.keeps hk5 (by unfold NotBox; omega))
      have HB5:=hide (below_box HB4.out hk5 hs4)
      go_wp2
      exact dec_throw rfl rfl hnd (own_base ho hs4) hx5 HN5.out HB5.out HRR.out
     | inr x5 =>
      rw [happ] at KI
      obtain ⟨b5,hA,hrel5⟩:=hst2 x5 happ
      have HRR:Hid (readA bs=runA rest b5 (ty :: seen)):=by show readA bs=_; rw [HGO2.out,hA,thenA_go]
      unfold IntoRes at KI
      simp only at KI
      have HREL:=hide hrel5
      clear hst1 hst2 hrel5 hA
      go_wp2_with fail
      refine KI.out.mono ?_
      rintro e w5 ⟨rfl,hx5,hk5⟩
      have HD5:Hid (DecSt bs w w5 rest a3 x5 b5 (ty :: seen)):=⟨brd_low R3.out L3.out (fun k hk=>hk5.block k (by have:=HB4.out.size; omega) (by unfold NotBox; omega)),L3.out,by rw [List.length_cons,hlr,hbl]; omega,hx5,HN4.out.keeps hk5 (by unfold NotBox; omega),HT4.out.keeps hk5 (by unfold NotBox; omega),HREL.out,HRR.out,below_box HB4.out hk5 hs4,Nat.le_trans hs4 hk5.size⟩
      clear hx5 hk5
      go_wp2
      refine ⟨⟨rest,a3,k3,x5,b5,ty :: seen,by rw [hlr],by rw [hlr]; exact hk3,HD5⟩,?_⟩
      simp [sliceLen]
      omega
   ·have K:=hide (afirst_no a' c' rem (wr.alloc (.cells #[.int .i64 0,.int .i64 0,.slice none 0 0,.slice none 0 0] 124)) hr0 (by omega) hrc (HD.out.rd.below HB1.out) hfit)
    have HNO:Hid (readA bs=.inl (3,1,[])):=by
     show readA bs=_
     rw [HD.out.run,runA_no hne0 (by rw [fitsL_eq]; exact decide_eq_false (fun h9=>hfit ⟨h9.1,h9.2.1⟩))]
    unfold Throws at K
    unfold thrown at K
    generalize hrl:rem.length=rl at *
    have hr1:(0:Int) < (rl:Int):=by omega
    go_wp2_with fail
    refine K.out.mono ?_
    rintro e w2 ⟨a9,c9,rfl,ho,hb2⟩
    have HD5:=hide (HD.out.later (HB1.out.trans (hb2.mono (by simp))))
    go_wp2
    exact dec_throw rfl rfl rfl (own_base ho (by simp; omega)) HD5.out.box HD5.out.note HD5.out.bel HNO.out
  ·have hrem:rem=[]:=List.length_eq_zero_iff.1 (by omega)
   subst hrem
   have HFIN:Hid (readA bs=finA b seen):=by show readA bs=_; rw [HD.out.run,runA_end]
   go_wp2
   go_loop [6] (fun i=>∃ k:Nat,1≤k∧k≤4∧i=.int .i64 k∧Hid (∀ j,1≤j→j < k→j∈seen)) (fun i=>4 - (intOf i).toNat)
   case atStart=>exact ⟨1,by omega,by omega,rfl,fun j h1 h2=>by omega⟩
   case round =>
    obtain ⟨k,hk1,hk4,rfl,HK⟩:=hrel
    by_cases hlt:k≤3
    ·have cy:=(HD.out.stood k (by omega)).1
     have j0:(0:Int)≤(k:Int):=Int.natCast_nonneg _
     have j1:(k:Int) < 256:=by omega
     have j3:(k:Int)≤3:=by omega
     by_cases hin:k∈seen
     ·rw [decide_eq_true hin] at cy
      go_wp2
      exact ⟨⟨k+1,by omega,by omega,by go_num,fun j h1 h2=>by
       by_cases e:j=k
       ·rw [e]; exact hin
       ·exact HK.out j h1 (by omega)⟩,by simp [intOf]; omega⟩
     ·rw [decide_eq_false hin] at cy
      have HRR:Hid (readA bs=.inl (3,3,[k])):=by
       show readA bs=_
       rw [HFIN.out]
       unfold finA
       rcases (by omega:k=1∨k=2∨k=3) with rfl | rfl | rfl
       ·rw [if_pos hin]
       ·rw [if_neg (fun h9=>h9 (HK.out 1 (by omega) (by omega))),if_pos hin]
       ·rw [if_neg (fun h9=>h9 (HK.out 1 (by omega) (by omega))),if_neg (fun h9=>h9 (HK.out 2 (by omega) (by omega))),if_pos hin]
      have wk:IntKind.u8.wrap (k:Int)=(k:Int):=by rw [IntKind.wrap_u8]; omega
      have HBA:Hid (Below wr.heap.size wr (wr.alloc (.cells #[.int .u8 (k:Int)] 5))):=(Below.refl _ _).alloc (Nat.le_refl _) _
      have HBR:Hid (BRd (wr.alloc (.cells #[.int .u8 (k:Int)] 5)) (some ⟨wr.heap.size,0,none⟩) [k]):=⟨⟨by unfold maxLen; simp,fun _=>⟨wr.heap.size,0,rfl,fun i hi=>by
       have:i=0:=by simpa using hi
       subst this
       simp [go_sem]⟩⟩,fun y hy=>by simp at hy; omega⟩
      have KT:Hid (Calls Tryz.prog 70 #[.int .i64 3,.slice (some ⟨wr.heap.size,0,none⟩) 1 1] (wr.alloc (.cells #[.int .u8 (k:Int)] 5)) fun e w'=>Throws wr w' 3 [k] e):=(throw_any 3 (some ⟨wr.heap.size,0,none⟩) 1 [k] _ (by simp) HBR.out).mono fun _ _ h9=>h9.from HBA.out
      unfold Throws at KT
      unfold thrown at KT
      simp only [List.length_cons,List.length_nil,Nat.zero_add] at KT
      go_wp2_with fail
      refine KT.out.mono ?_
      rintro e w5 ⟨a9,c9,rfl,ho,hb5⟩
      have HD5:=hide (HD.out.later hb5)
      go_wp2
      exact dec_throw rfl rfl rfl (own_base ho hsz) HD5.out.box HD5.out.note HD5.out.bel HRR.out
    ·have hk:k=4:=by omega
     subst hk
     have HRR:Hid (readA bs=.inr b):=by
      show readA bs=_
      rw [HFIN.out]
      unfold finA
      rw [if_neg (fun h9=>h9 (HK.out 1 (by omega) (by omega))),if_neg (fun h9=>h9 (HK.out 2 (by omega) (by omega))),if_neg (fun h9=>h9 (HK.out 3 (by omega) (by omega)))]
     obtain ⟨p,cc,hv6,_⟩:=HD.out.box.c6
     have KS:=hide (box_sort HD.out.box HD.out.rel (by have:=HD.out.rel.cnt; simp at hcnt; omega) hv6)
     generalize hrl:x.raws.length=rl at *
     clear hlt
     go_wp2_with fail
     refine KS.out.mono ?_
     rintro e w6 ⟨rfl,hx6,hk6⟩
     have q0:=hx6.c0
     have q2:=hx6.c2
     have q3:=hx6.c3
     have q4:=hx6.c4
     obtain ⟨p1,k1,q1,o1⟩:=hx6.c1
     obtain ⟨p5,k5,q5,o5⟩:=hx6.c5
     obtain ⟨p6,k6,q6,o6⟩:=hx6.c6
     have f0:=hx6.fz 0
     have f1:=hx6.fz 1
     have f2:=hx6.fz 2
     have f3:=hx6.fz 3
     have f4:=hx6.fz 4
     have f5:=hx6.fz 5
     have f6:=hx6.fz 6
     have HN6:=HD.out.note.keeps hk6 (by unfold NotBox; omega)
     have m0:=HN6.c0
     have m1:=HN6.c1
     have m2:=HN6.c2
     have e0:=HN6.fz 0
     have e1:=HN6.fz 1
     have e2:=HN6.fz 2
     have HB6:=hide (below_box HD.out.bel hk6 hsz)
     have HX6:=hide hx6
     have HZ:Hid (∀ w7,Keeps (fun k=>k=w.heap.size∨k=w.heap.size+1) w6 w7→DecA w w7 (readA bs) (.returned (.tuple #[.agg #[.int .i64 b.origin,.slice p1 b.path.length k1,.int .u32 (b.next:Int),.int .i64 b.med,.int .i64 b.pref,.slice p5 b.comms.length k5,.slice p6 b.raws.length k6],.agg #[.int .i64 0,.int .i64 0,.slice none 0 0]]))∧Below w.heap.size w w7):=fun w7 hk7=>by
      refine ⟨?_,?_⟩
      ·rw [HRR.out]
       refine ⟨p1,k1,p5,k5,p6,k6,rfl,(o1.keeps hk7 (fun k h9=>by rcases h9 with h9 | h9 <;> omega)).base (by omega),own_base (own_keeps o5 hk7 (fun k h9=>by rcases h9 with h9 | h9 <;> omega)) (by omega),?_⟩
       obtain ⟨cs,ho,hc⟩:=o6
       refine ⟨cs,own_base (own_keeps ho hk7 (fun k h9=>by rcases h9 with h9 | h9 <;> omega)) (by omega),fun i r hi=>?_⟩
       obtain ⟨g1,g2,u,g3,g4⟩:=hc i r hi
       exact ⟨g1,g2,u,g3,own_base (own_keeps g4 hk7 (fun k h9=>by rcases h9 with h9 | h9 <;> omega)) (by omega)⟩
      ·exact ⟨hk7.os.trans HB6.out.os,hk7.tape.trans HB6.out.tape,hk7.output.trans HB6.out.output,Nat.le_trans HB6.out.size hk7.size,fun k hk9=>by rw [hk7.block k (Nat.lt_of_lt_of_le hk9 HB6.out.size) (fun h9=>by rcases h9 with h9 | h9 <;> omega)]; exact HB6.out.block k hk9⟩
     clear o1 o5 o6 hx6 hk6 KS
     generalize b.path.length=n1 at *
     generalize b.comms.length=n5 at *
     generalize b.raws.length=n6 at *
     have hne1:w.heap.size≠w.heap.size+1:=by omega
     have hne2:w.heap.size+1≠w.heap.size:=by omega
     go_wp2_with fail
     go_region
     have hk7:Keeps (fun k=>k=w.heap.size∨k=w.heap.size+1) w6 ((((((((((w6.setCell ⟨w.heap.size,0,none⟩ (.int .i64 b.origin)).setCell ⟨w.heap.size,1,none⟩ (.slice p1 n1 k1)).setCell ⟨w.heap.size,2,none⟩ (.int .u32 (b.next:Int))).setCell ⟨w.heap.size,3,none⟩ (.int .i64 b.med)).setCell ⟨w.heap.size,4,none⟩ (.int .i64 b.pref)).setCell ⟨w.heap.size,5,none⟩ (.slice p5 n5 k5)).setCell ⟨w.heap.size,6,none⟩ (.slice p6 n6 k6)).setCell ⟨w.heap.size+1,0,none⟩ (.int .i64 0)).setCell ⟨w.heap.size+1,1,none⟩ (.int .i64 0)).setCell ⟨w.heap.size+1,2,none⟩ (.slice none 0 0)).drew :=
      (((((((((((Keeps.refl _ w6).setCell _ 0 _ (.inl (.inl rfl))).setCell _ 1 _ (.inl (.inl rfl))).setCell _ 2 _ (.inl (.inl rfl))).setCell _ 3 _ (.inl (.inl rfl))).setCell _ 4 _ (.inl (.inl rfl))).setCell _ 5 _ (.inl (.inl rfl))).setCell _ 6 _ (.inl (.inl rfl))).setCell _ 0 _ (.inl (.inr rfl))).setCell _ 1 _ (.inl (.inr rfl))).setCell _ 2 _ (.inl (.inr rfl))).drew
     obtain ⟨hz7,hb7⟩:=HZ.out _ hk7
     all_goals go_wp2
     all_goals exact dec_return rfl rfl (by simp [go_sem,q0]) (by simp [go_sem,q1]) (by simp [go_sem,q2]) (by simp [go_sem,q3]) (by simp [go_sem,q4]) (by simp [go_sem,q5]) (by simp [go_sem,q6]) (by simp [go_sem,m0]) (by simp [go_sem,m1]) (by simp [go_sem,m2]) hz7 hb7
theorem run_of_build0U {dst:Option Tmp}{ty:TypeId}{pos:String}{after:Array Edge}{ρ:Operand→Value}(w:World):(execOp ρ { dst:=dst,op:=.build 36 #[],type:=ty,pos:=pos,after:=after,guard:=none }).run Tryz.prog w=.ok (.value (.agg zU)) w:=by
 unfold execOp
 have e:((#[]:Array (Nat×Operand)).map fun (i,x)=>(i,ρ x))=#[]:=by simp
 simp only [e,Sem.run_bind,run_build0U,Result.andThen_ok,Sem.run_pure]
section
attribute [local go_sem ↓] keptU_store keptU_alloc keptU_build keptU_load
set_option maxHeartbeats 4000000 in
theorem readup_abad (a:Option Addr)(n c:Nat)(bs p q at_ nl:List Nat)(w:World)(hn:bs.length=n)(hl:n≤5000)(hcap:n≤c)(h:BRd w a bs)(h1:cutP 2 bs=some (p,q))(h2:cutP 2 q=some (at_,nl))(hS:Said w)(G N:List (Nat×Nat))(h3:pfxB p=some G)(h4:pfxB nl=some N)(h5:¬ (N=[]∧at_=[]))(k s:Nat)(d:List Nat)(h6:readA at_=.inl (k,s,d)) :
  Calls Tryz.prog 26 #[.slice a n c] w fun e w'=>UpBad w w' e 3 s d∧Below w.heap.size w w':=by
 have HW:Hid (UW w ((w.alloc (.cells zU 36)).alloc (.cells #[.int .i64 0,.int .i64 0,.slice none 0 0] 38))):=UW.made w
 obtain ⟨lp,lq⟩:=cutP_len h1
 obtain ⟨la,ln⟩:=cutP_len h2
 have hc1:=mcut_any a c 2 bs ((w.alloc (.cells zU 36)).alloc (.cells #[.int .i64 0,.int .i64 0,.slice none 0 0] 38)) (by omega) (by omega) (by omega) (by omega) (h.below HW.out.bel)
 rw [h1,hn] at hc1
 have HC1:=hide hc1
 have HC2:Hid (∀ m aq cq,q.length≤cq→BRd ((w.alloc (.cells zU 36)).alloc (.cells #[.int .i64 0,.int .i64 0,.slice none 0 0] 38)) aq q→Calls Tryz.prog 42 #[.slice aq q.length cq,.int .i64 2] (((w.alloc (.cells zU 36)).alloc (.cells #[.int .i64 0,.int .i64 0,.slice none 0 0] 38)).drewN m) fun e w'=>∃ ap2 cp2 aq2 cq2,e=.returned (.tuple #[.slice ap2 at_.length cp2,.slice aq2 nl.length cq2,.bool true])∧at_.length≤cp2∧nl.length≤cq2∧Hid (BRd w' ap2 at_)∧Hid (BRd w' aq2 nl)∧Hid (Below ((w.alloc (.cells zU 36)).alloc (.cells #[.int .i64 0,.int .i64 0,.slice none 0 0] 38)).heap.size ((w.alloc (.cells zU 36)).alloc (.cells #[.int .i64 0,.int .i64 0,.slice none 0 0] 38)) w')):=fun m aq cq h5 h6=>by
  have:=mcut_any aq cq 2 q (((w.alloc (.cells zU 36)).alloc (.cells #[.int .i64 0,.int .i64 0,.slice none 0 0] 38)).drewN m) (by omega) (by omega) (by omega) h5 (h6.below ⟨rfl,rfl,rfl,Nat.le_refl _,fun _ _=>rfl⟩)
  rw [h2] at this
  refine this.mono ?_
  rintro e w' ⟨⟨ap2,cp2,aq2,cq2,e1,e2,e3,e4,e5⟩,m2,rfl⟩
  have hb:Below (((w.alloc (.cells zU 36)).alloc (.cells #[.int .i64 0,.int .i64 0,.slice none 0 0] 38)).drewN m).heap.size (((w.alloc (.cells zU 36)).alloc (.cells #[.int .i64 0,.int .i64 0,.slice none 0 0] 38)).drewN m) ((((w.alloc (.cells zU 36)).alloc (.cells #[.int .i64 0,.int .i64 0,.slice none 0 0] 38)).drewN m).drewN m2):=⟨rfl,rfl,rfl,Nat.le_refl _,fun _ _=>rfl⟩
  exact ⟨ap2,cp2,aq2,cq2,e1,e2,e3,e4.below hb,e5.below hb,⟨rfl,rfl,rfl,Nat.le_refl _,fun _ _=>rfl⟩⟩
 have KP1:Hid (∀ X ap cp,p.length≤cp→BRd X ap p→Calls Tryz.prog 45 #[.slice ap p.length cp] X fun e w'=>(∃ v,e=.returned (.tuple #[v,.bool true])∧w'.ownsRow X.heap.size 96 2 v G.length (pcells G))∧Below X.heap.size X w'):=fun X ap cp h5 h6=>by
  have:=pdecB_any ap cp p X (by omega) h5 h6
  rw [h3] at this
  exact this
 have KP2:Hid (∀ X ap cp,nl.length≤cp→BRd X ap nl→Calls Tryz.prog 45 #[.slice ap nl.length cp] X fun e w'=>(∃ v,e=.returned (.tuple #[v,.bool true])∧w'.ownsRow X.heap.size 96 2 v N.length (pcells N))∧Below X.heap.size X w'):=fun X ap cp h5 h6=>by
  have:=pdecB_any ap cp nl X (by omega) h5 h6
  rw [h4] at this
  exact this
 have KD:Hid (∀ X ap cp,Below w.heap.size w X→at_.length≤cp→BRd X ap at_→Calls Tryz.prog 46 #[.slice ap at_.length cp] X fun e w'=>DecA X w' (readA at_) e∧Below X.heap.size X w'):=fun X ap cp hX h5 h6=>decode_any ap cp at_ X (hS.below hX) (by omega) h5 h6
 have hcase:((N.length:Int) == 0)=false∨(((N.length:Int) == 0)=true∧((at_.length:Int) == 0)=false):=by
  by_cases hN:N=[]
  ·refine .inr ⟨by simp [hN],?_⟩
   have:at_≠[]:=fun e=>h5 ⟨hN,e⟩
   have:at_.length≠0:=fun e=>this (List.length_eq_zero_iff.1 e)
   simp; omega
  ·refine .inl ?_
   have:N.length≠0:=fun e=>hN (List.length_eq_zero_iff.1 e)
   simp; omega
 unfold CutIs at HC1
 simp only [h6,DecA] at KD
 unfold UpBad NoteIs
 simp only at HC1
 clear h hc1 h1 h2 hn hl hcap lp lq la ln h3 h4 h5 h6 hS
 generalize q.length=nq at *
 generalize p.length=np at *
 generalize nl.length=nn at *
 generalize at_.length=na at *
 generalize G.length=gl at *
 generalize N.length=nlen at *
 generalize d.length=dl at *
 go_enter Tryz.func26,Tryz.ntmps26
 go_wp2_with (first | (refine keptU_alloc_intro _ (run_allocU w) ?_))
 refine HC1.out.mono ?_
 rintro e w1 ⟨⟨ap,cp,aq,cq,rfl,hp1,hq1,hp2,hq2⟩,m,rfl⟩
 have HP2:=hide hp2
 have HQ2:=hide hq2
 clear hp2 hq2
 go_wp2_with fail
 with_reducible refine (HC2.out m aq cq hq1 HQ2.out).mono ?_
 rintro e w2 ⟨ap2,cp2,aq2,cq2,rfl,hap,hnl,HA,HN,HB2⟩
 have HWX:=hide (HW.out.later HB2.out)
 go_wp2_with fail
 with_reducible refine (KP1.out w2 ap cp hp1 (HP2.out.below HB2.out)).mono ?_
 rintro e w3 ⟨⟨v,rfl,ho3⟩,hb3⟩
 obtain ⟨va,vc,rfl⟩:=own_slice ho3
 have HW3:=hide (HWX.out.later hb3)
 have HN3:=hide (HN.out.below hb3)
 have HA3:=hide (HA.out.below hb3)
 have hz2:w.heap.size+2≤w2.heap.size:=(Array.getElem?_eq_some_iff.1 HWX.out.bN).1
 have hz3:w.heap.size+2≤w3.heap.size:=(Array.getElem?_eq_some_iff.1 HW3.out.bN).1
 have HO3:=hide (own_base ho3 hz2)
 clear hb3 ho3
 go_wp2_with fail
 with_reducible refine (KP2.out w3 aq2 cq2 hnl HN3.out).mono ?_
 rintro e w4 ⟨⟨v2,rfl,ho4⟩,hb4⟩
 obtain ⟨ua,uc,rfl⟩:=own_slice ho4
 have HW4:=hide (HW3.out.later hb4)
 have HA4:=hide (HA3.out.below hb4)
 have HO4:=hide (own_base ho4 hz3)
 have HO3':=hide (own_later HO3.out hb4)
 have hz4:w.heap.size+2≤w4.heap.size:=(Array.getElem?_eq_some_iff.1 HW4.out.bN).1
 clear hb4 ho4
 have hUC:UC (updC (.slice va gl vc) zA7 (.slice ua nlen uc)):=UC.upd rfl rfl rfl (by simp [zA7,Value.oneCell'])
 obtain ⟨W5,hst5,hb5,bel5⟩:=store_upd w4 (updC (.slice va gl vc) zA7 (.slice ua nlen uc)) hUC
 have HW5:=hide (HW4.out.later bel5)
 have HA5:=hide (HA4.out.below bel5)
 have HST5:=hide hst5
 have HB5:=hide hb5
 have HOA:=hide (own_later HO3'.out bel5)
 have HOB:=hide (own_later HO4.out bel5)
 have hz5:w4.heap.size < W5.heap.size:=(Array.getElem?_eq_some_iff.1 hb5).1
 clear hst5 hb5 bel5
 rcases hcase with hc9 | ⟨hc9,hc8⟩
 ·go_wp2_with (first
  | (refine keptU_build2_intro 0 2 _ _ (.slice va gl vc) (.slice ua nlen uc) (.agg (updC (.slice va gl vc) zA7 (.slice ua nlen uc))) (by rfl) (by rfl) (run_build2U _ _ _ _ _ _ _) ?_)
  | (refine keptU_alloc_intro _ (run_allocU w4) ?_)
  | (refine keptU_store_intro _ _ (.pointer (some ⟨w4.heap.size,0,none⟩)) (.agg (updC (.slice va gl vc) zA7 (.slice ua nlen uc))) (by rfl) (by rfl) HST5.out ?_))
  with_reducible refine (KD.out W5 ap2 cp2 HW5.out.bel hap HA5.out).mono ?_
  rintro e w6 ⟨⟨a9,c9,rfl,ho6⟩,hb6⟩
  have HW6:=hide (HW5.out.later hb6)
  have HO6:=hide ho6
  clear ho6 hb6
  go_wp2_with fail
  have HW7:Hid (UW w ((w6.alloc (.cells zA7 34)).alloc (.cells #[.int .i64 3,.int .i64 (s:Int),.slice a9 dl c9] 38))):=(HW6.out.later ((Below.refl _ _).alloc (Nat.le_refl _) _)).later ((Below.refl _ _).alloc (Nat.le_refl _) _)
  have HX7:Hid (((w6.alloc (.cells zA7 34)).alloc (.cells #[.int .i64 3,.int .i64 (s:Int),.slice a9 dl c9] 38)).heap[w6.heap.size+1]?=some (.cells #[.int .i64 3,.int .i64 (s:Int),.slice a9 dl c9] 38 (0,0))):=by
   have:=heap_alloc_new (w6.alloc (.cells zA7 34)) (.cells #[.int .i64 3,.int .i64 (s:Int),.slice a9 dl c9] 38)
   rw [World.size_alloc] at this
   exact this
  have HO7:Hid (((w6.alloc (.cells zA7 34)).alloc (.cells #[.int .i64 3,.int .i64 (s:Int),.slice a9 dl c9] 38)).ownsRow W5.heap.size 5 1 (.slice a9 dl c9) dl (bcells d)):=(HO6.out.alloc _).alloc _
  have hz6:w.heap.size+1 < w6.heap.size:=(Array.getElem?_eq_some_iff.1 HW6.out.bN).1
  show Code.wp _ _ _ _ ((w6.alloc (.cells zA7 34)).alloc (.cells #[.int .i64 3,.int .i64 (s:Int),.slice a9 dl c9] 38))
  generalize ((w6.alloc (.cells zA7 34)).alloc (.cells #[.int .i64 3,.int .i64 (s:Int),.slice a9 dl c9] 38))=W7 at *
  refine out_region _ W7 w.heap.size (w.heap.size+1) 36 zU zU #[.int .i64 0,.int .i64 0,.slice none 0 0] #[.int .i64 3,.int .i64 (s:Int),.slice a9 dl c9] 76 77 _ _ (opi rfl) (opi rfl) (opi rfl) (opi rfl) rfl (by kernel_rfl) (by kernel_rfl) (by kernel_rfl) (by kernel_rfl) (by kernel_rfl) (by kernel_rfl) (by kernel_rfl) (by kernel_rfl)
   (fun ty po af W' _=>run_of_build0U W') (fun ty po af W' hW=>run_of_loadN (g:=w6.heap.size+1) (by rfl) (by
    rw [hW.block _ (Array.getElem?_eq_some_iff.1 HX7.out).1 (by omega)]; exact HX7.out)) rfl rfl (show 76 < 85 by decide) (show 77 < 85 by decide) (by decide) HW7.out.bU HW7.out.bN (by omega) rfl rfl infoU infoN UC.zero.2 (by simp [Value.oneCell']) ?_
  simp only [Act.put,List.setIfInBounds_toArray,List.set_cons_zero,List.set_cons_succ]
  have HRM:Hid (((({ W7 with drawn:=W7.drawn+1 } : World).setCells w.heap.size 0 zU.toList).setCells (w.heap.size+1) 0 (#[Value.int .i64 3,.int .i64 (s:Int),.slice a9 dl c9]:Array Value).toList).rangeAt w.heap.size 0 zU.toList):=bx_apart (bx_set (w:={ W7 with drawn:=W7.drawn+1 }) HW7.out.bU (Nat.le_refl _)) (by omega)
  have HRN:Hid (((({ W7 with drawn:=W7.drawn+1 } : World).setCells w.heap.size 0 zU.toList).setCells (w.heap.size+1) 0 (#[Value.int .i64 3,.int .i64 (s:Int),.slice a9 dl c9]:Array Value).toList).rangeAt (w.heap.size+1) 0 (#[Value.int .i64 3,.int .i64 (s:Int),.slice a9 dl c9]:Array Value).toList) :=
   bx_set (C0:=#[.int .i64 0,.int .i64 0,.slice none 0 0]) (t:=38) (by rw [heap_sets (by omega)]; exact HW7.out.bN) (by simp)
  have HKe:Hid (Keeps (fun x=>x=w.heap.size∨x=w.heap.size+1) W7 ((({ W7 with drawn:=W7.drawn+1 } : World).setCells w.heap.size 0 zU.toList).setCells (w.heap.size+1) 0 (#[Value.int .i64 3,.int .i64 (s:Int),.slice a9 dl c9]:Array Value).toList)) :=
   (Keeps.setCells (w:=W7) (w1:={ W7 with drawn:=W7.drawn+1 }) ⟨rfl,rfl,rfl,Nat.le_refl _,fun _ _ _=>rfl⟩ _ 0 _ (.inl (.inl rfl))).setCells _ 0 _ (.inl (.inr rfl))
  generalize ((({ W7 with drawn:=W7.drawn+1 } : World).setCells w.heap.size 0 zU.toList).setCells (w.heap.size+1) 0 (#[Value.int .i64 3,.int .i64 (s:Int),.slice a9 dl c9]:Array Value).toList)=W9 at *
  go_wp2_with fail
  refine bodyPost_ret (v:=.tuple #[.agg zU,.agg #[.int .i64 3,.int .i64 (s:Int),.slice a9 dl c9]]) (res_cells2 Tryz.results26 _ W9 w.heap.size (w.heap.size+1) zU _ rfl rfl HRM.out HRN.out Tryz.underlying36 rfl infoU Tryz.underlying38 rfl infoN) rfl ⟨⟨_,rfl,a9,c9,rfl,?_⟩,?_⟩
  ·exact own_low (own_keep HO7.out HKe.out (fun x hx=>by omega)) (by omega)
  ·exact HW7.out.bel.trans (HKe.out.below _ HW7.out.bel.size (fun x e=>by omega))
 ·go_wp2_with (first
  | (refine keptU_build2_intro 0 2 _ _ (.slice va gl vc) (.slice ua nlen uc) (.agg (updC (.slice va gl vc) zA7 (.slice ua nlen uc))) (by rfl) (by rfl) (run_build2U _ _ _ _ _ _ _) ?_)
  | (refine keptU_alloc_intro _ (run_allocU w4) ?_)
  | (refine keptU_store_intro _ _ (.pointer (some ⟨w4.heap.size,0,none⟩)) (.agg (updC (.slice va gl vc) zA7 (.slice ua nlen uc))) (by rfl) (by rfl) HST5.out ?_))
  with_reducible refine (KD.out W5 ap2 cp2 HW5.out.bel hap HA5.out).mono ?_
  rintro e w6 ⟨⟨a9,c9,rfl,ho6⟩,hb6⟩
  have HW6:=hide (HW5.out.later hb6)
  have HO6:=hide ho6
  clear ho6 hb6
  go_wp2_with fail
  have HW7:Hid (UW w ((w6.alloc (.cells zA7 34)).alloc (.cells #[.int .i64 3,.int .i64 (s:Int),.slice a9 dl c9] 38))):=(HW6.out.later ((Below.refl _ _).alloc (Nat.le_refl _) _)).later ((Below.refl _ _).alloc (Nat.le_refl _) _)
  have HX7:Hid (((w6.alloc (.cells zA7 34)).alloc (.cells #[.int .i64 3,.int .i64 (s:Int),.slice a9 dl c9] 38)).heap[w6.heap.size+1]?=some (.cells #[.int .i64 3,.int .i64 (s:Int),.slice a9 dl c9] 38 (0,0))):=by
   have:=heap_alloc_new (w6.alloc (.cells zA7 34)) (.cells #[.int .i64 3,.int .i64 (s:Int),.slice a9 dl c9] 38)
   rw [World.size_alloc] at this
   exact this
  have HO7:Hid (((w6.alloc (.cells zA7 34)).alloc (.cells #[.int .i64 3,.int .i64 (s:Int),.slice a9 dl c9] 38)).ownsRow W5.heap.size 5 1 (.slice a9 dl c9) dl (bcells d)):=(HO6.out.alloc _).alloc _
  have hz6:w.heap.size+1 < w6.heap.size:=(Array.getElem?_eq_some_iff.1 HW6.out.bN).1
  show Code.wp _ _ _ _ ((w6.alloc (.cells zA7 34)).alloc (.cells #[.int .i64 3,.int .i64 (s:Int),.slice a9 dl c9] 38))
  generalize ((w6.alloc (.cells zA7 34)).alloc (.cells #[.int .i64 3,.int .i64 (s:Int),.slice a9 dl c9] 38))=W7 at *
  refine out_region _ W7 w.heap.size (w.heap.size+1) 36 zU zU #[.int .i64 0,.int .i64 0,.slice none 0 0] #[.int .i64 3,.int .i64 (s:Int),.slice a9 dl c9] 76 77 _ _ (opi rfl) (opi rfl) (opi rfl) (opi rfl) rfl (by kernel_rfl) (by kernel_rfl) (by kernel_rfl) (by kernel_rfl) (by kernel_rfl) (by kernel_rfl) (by kernel_rfl) (by kernel_rfl)
   (fun ty po af W' _=>run_of_build0U W') (fun ty po af W' hW=>run_of_loadN (g:=w6.heap.size+1) (by rfl) (by
    rw [hW.block _ (Array.getElem?_eq_some_iff.1 HX7.out).1 (by omega)]; exact HX7.out)) rfl rfl (show 76 < 85 by decide) (show 77 < 85 by decide) (by decide) HW7.out.bU HW7.out.bN (by omega) rfl rfl infoU infoN UC.zero.2 (by simp [Value.oneCell']) ?_
  simp only [Act.put,List.setIfInBounds_toArray,List.set_cons_zero,List.set_cons_succ]
  have HRM:Hid (((({ W7 with drawn:=W7.drawn+1 } : World).setCells w.heap.size 0 zU.toList).setCells (w.heap.size+1) 0 (#[Value.int .i64 3,.int .i64 (s:Int),.slice a9 dl c9]:Array Value).toList).rangeAt w.heap.size 0 zU.toList):=bx_apart (bx_set (w:={ W7 with drawn:=W7.drawn+1 }) HW7.out.bU (Nat.le_refl _)) (by omega)
  have HRN:Hid (((({ W7 with drawn:=W7.drawn+1 } : World).setCells w.heap.size 0 zU.toList).setCells (w.heap.size+1) 0 (#[Value.int .i64 3,.int .i64 (s:Int),.slice a9 dl c9]:Array Value).toList).rangeAt (w.heap.size+1) 0 (#[Value.int .i64 3,.int .i64 (s:Int),.slice a9 dl c9]:Array Value).toList) :=
   bx_set (C0:=#[.int .i64 0,.int .i64 0,.slice none 0 0]) (t:=38) (by rw [heap_sets (by omega)]; exact HW7.out.bN) (by simp)
  have HKe:Hid (Keeps (fun x=>x=w.heap.size∨x=w.heap.size+1) W7 ((({ W7 with drawn:=W7.drawn+1 } : World).setCells w.heap.size 0 zU.toList).setCells (w.heap.size+1) 0 (#[Value.int .i64 3,.int .i64 (s:Int),.slice a9 dl c9]:Array Value).toList)) :=
   (Keeps.setCells (w:=W7) (w1:={ W7 with drawn:=W7.drawn+1 }) ⟨rfl,rfl,rfl,Nat.le_refl _,fun _ _ _=>rfl⟩ _ 0 _ (.inl (.inl rfl))).setCells _ 0 _ (.inl (.inr rfl))
  generalize ((({ W7 with drawn:=W7.drawn+1 } : World).setCells w.heap.size 0 zU.toList).setCells (w.heap.size+1) 0 (#[Value.int .i64 3,.int .i64 (s:Int),.slice a9 dl c9]:Array Value).toList)=W9 at *
  go_wp2_with fail
  refine bodyPost_ret (v:=.tuple #[.agg zU,.agg #[.int .i64 3,.int .i64 (s:Int),.slice a9 dl c9]]) (res_cells2 Tryz.results26 _ W9 w.heap.size (w.heap.size+1) zU _ rfl rfl HRM.out HRN.out Tryz.underlying36 rfl infoU Tryz.underlying38 rfl infoN) rfl ⟨⟨_,rfl,a9,c9,rfl,?_⟩,?_⟩
  ·exact own_low (own_keep HO7.out HKe.out (fun x hx=>by omega)) (by omega)
  ·exact HW7.out.bel.trans (HKe.out.below _ HW7.out.bel.size (fun x e=>by omega))
end
end Go.Proofs.YtogbjeaceboemaaGreatDoor
