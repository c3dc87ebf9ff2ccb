import Derived.Test.YtogbjeaceboemaaGreatDoorPA19
import Derived.Test.YtogbjeaceboemaaGreatDoorPA2
import Derived.Test.YtogbjeaceboemaaGreatDoorPA18
import Derived.Test.YtogbjeaceboemaaGreatDoorPA17
namespace Go.Proofs.YtogbjeaceboemaaGreatDoor
open Go.RowKit
set_option maxRecDepth 100000
theorem own_keeps {w w':World}{B e size n:Nat}{v:Value}{xs:List Value}{F:Nat→Prop} (h:w.ownsRow B e size v n xs) (hk:Keeps F w w') (hF:∀ k,F k→k < B):w'.ownsRow B e size v n xs:=by
 refine ⟨h.1,?_⟩
 rcases h.2 with hh | ⟨g,cap,cur,e1,hb,hc,rest⟩
 ·exact .inl hh
 ·refine .inr ⟨g,cap,cur,e1,hb,?_,rest⟩
  rw [hk.block g (Array.getElem?_eq_some_iff.1 hc).1 (fun h9=>absurd (hF g h9) (by omega))]
  exact hc
theorem OwnPath.keeps {w w':World}{B:Nat}{v:Value}{ss:List (Bool×List Int)}{F:Nat→Prop} (h:OwnPath w B v ss) (hk:Keeps F w w') (hF:∀ k,F k→k < B):OwnPath w' B v ss:=by
 obtain ⟨cs,ho,hc⟩:=h
 refine ⟨cs,own_keeps ho hk hF,fun i s hi=>?_⟩
 obtain ⟨h1,u,h2,h3⟩:=hc i s hi
 exact ⟨h1,u,h2,own_keeps h3 hk hF⟩
theorem OwnPath.base {w:World}{B B':Nat}{v:Value}{ss:List (Bool×List Int)} (h:OwnPath w B v ss) (hB:B'≤B):OwnPath w B' v ss:=by
 obtain ⟨cs,ho,hc⟩:=h
 refine ⟨cs,own_base ho hB,fun i s hi=>?_⟩
 obtain ⟨h1,u,h2,h3⟩:=hc i s hi
 exact ⟨h1,u,h2,own_base h3 hB⟩
theorem Chk.under {w w':World}{B x:Nat} (h:Chk w B x) (hb:Below (B+9) w w'):Chk w' B x:=by
 have key:∀ k,k≤8→w'.cell? ⟨B+k,0,none⟩=w.cell? ⟨B+k,0,none⟩:=fun k hk=>hb.cell (p:=⟨B+k,0,none⟩) (by show B+k < B+9; omega)
 exact ⟨by rw [← h.l1]; exact key 0 (by omega),by rw [← h.m1]; exact key 1 (by omega),by rw [← h.l2]; exact key 2 (by omega),by rw [← h.m2]; exact key 3 (by omega),by rw [← h.m3]; exact key 4 (by omega),by rw [← h.ct]; exact key 5 (by omega),by rw [hb.frozen (p:=⟨B+5,0,none⟩) (by show B+5 < B+9; omega)]; exact h.fz,
  by rw [← h.f1]; exact key 6 (by omega),by rw [← h.f2]; exact key 7 (by omega),by rw [← h.f3]; exact key 8 (by omega)⟩
theorem goodP_app {a b:List (Bool×List Int)}(h:goodP a=false):goodP (a++b)=false:=by
 unfold goodP at h ⊢
 rw [List.all_append]
 rcases (Bool.and_eq_false_iff).1 h with h | h
 ·rw [h]; rfl
 ·have h2:sumP a≤sumP (a++b):=by
   have:=sumP_take (a++b) a.length
   rwa [List.take_left] at this
  rw [decide_eq_false (by have:=of_decide_eq_false h; omega),Bool.and_false]
theorem segsFuel_bad (f:Nat→Nat)(len:Nat):∀ (k i:Nat) (acc:List (Bool×List Int)),goodP acc=false→segsFuel f len k i acc=none
 | 0,i,acc,h=>by rw [segsFuel]; unfold fin; rw [h]; rfl
 | k+1,i,acc,h=>by
  rw [segsFuel]
  by_cases hi:i < len
  ·rw [if_pos hi]
   by_cases ho:segOk f len i=true
   ·rw [if_pos ho]; exact segsFuel_bad f len k _ _ (goodP_app h)
   ·rw [if_neg ho]
  ·rw [if_neg hi]; unfold fin; rw [h]; rfl
theorem segsRun_bad {f:Nat→Nat}{len i:Nat}{acc:List (Bool×List Int)} (h:goodP acc=false):segsRun f len i acc=none:=segsFuel_bad f len _ i acc h
theorem goodP_snoc (acc:List (Bool×List Int))(s:Bool×List Int)(h:acc.all okS=true):goodP (acc++[s])=(okS s && decide (sumP acc+s.2.length≤64)):=by
 unfold goodP
 rw [List.all_append,h,sumP_snoc]
 simp
section
attribute [local go_sem ↓] kept_appendS
set_option maxHeartbeats 3200000 in
theorem pdecode_some (b off len cap:Nat)(f:Nat→Nat)(w:World)(hl:len≤10000)(hlc:len≤cap)(hf:∀ j,j < len→f j < 256)(hcell:∀ j,j < len→w.cell? ⟨b,off+j,none⟩=some (.int .u8 (f j:Int))) :
  Calls Tryz.prog 125 #[.slice (some ⟨b,off,none⟩) len cap] w fun e w'=>PthRes w w' (segsRun f len 0 []) e∧Below w.heap.size w w':=by
 have HC:=hide hcell
 have HF:=hide hf
 clear hcell hf
 go_enter Tryz.func125,Tryz.ntmps125
 go_wp2_with fail
 refine (gob_any _).mono ?_
 rintro e w1 ⟨rfl,hk1,hb1⟩
 unfold chkV
 have HK1:=hide hk1
 have HB1:=hide hb1
 clear hk1 hb1
 go_wp2
 go_loopw [0,5] (fun s v wq=>∃ (i:Nat) (acc:List (Bool×List Int)) (a':Option Addr) (c' r x:Nat),s=.slice a' r c'∧r=len - i∧i≤len∧r≤c'∧x≤64∧Hid (x=sumP acc)∧Hid (acc.all okS=true)∧Hid (i < len→a'=some ⟨b,off+i,none⟩)∧Hid (OwnPath wq (w.heap.size+9) v acc)∧Hid (Below w.heap.size w wq)∧Hid (Chk wq w.heap.size x)∧Hid (segsRun f len 0 []=segsRun f len i acc)∧acc.length≤i) (fun s _ _=>sliceLen s)
 case atStart=>exact ⟨0,[],_,cap,len,0,rfl,rfl,Nat.zero_le _,hlc,by omega,rfl,rfl,fun _=>rfl,OwnPath.nil _ _,HB1,HK1,rfl,Nat.le_refl _⟩
 case round =>
  clear HK1 HB1
  obtain ⟨i,acc,a',c',r,x,rfl,hr,hi,hrc,hx,HX,HAL,HA,HO,HB,HCH,HE,hal⟩:=hrel
  by_cases hlt:i < len
  ·have ha:=HA.out hlt
   subst ha
   have hr0:(0:Int) < (r:Int):=by omega
   have hcw:Hid (∀ j,j < len→wr.cell? ⟨b,off+j,none⟩=some (.int .u8 (f j:Int))):=fun j hj=>by
    rw [HB.out.cell (p:=⟨b,off+j,none⟩) (World.block_lt_of_cell? w _ (HC.out j hj))]
    exact HC.out j hj
   have HRR:=hide hr
   have hrl:r≤len:=by omega
   clear hr HA
   cases hk:segOk f len i with
   | false =>
    have HN:Hid (segsRun f len 0 []=none):=by show segsRun f len 0 []=none; rw [HE.out,segsRun_no hlt hk]
    have HK:=hide hk
    clear hk
    go_wp2_with fail
    rw [HRR.out]
    refine (pfirst_bad b off len i c' f wr hlt (by rw [← HRR.out]; exact hrc) (by omega) HF.out hcw.out HK.out).mono ?_
    rintro e w2 ⟨rfl,hb⟩
    have HB1:Hid (Below w.heap.size w w2):=HB.out.trans (hb.mono HB.out.size)
    clear hb
    go_wp2
    go_ret2
    exact ⟨by rw [HN.out]; rfl,HB1.out.alloc HB1.out.size _⟩
   | true =>
    have HK:=hide hk
    clear hk
    have HE1:Hid (segsRun f len 0 []=segsRun f len (i+2+4 * f (i+1)) (acc++[segAt f i])):=by show segsRun f len 0 []=_; rw [HE.out,segsRun_go hlt HK.out]
    have HL2:Hid (i+2+4 * f (i+1)≤len):=(segOk_at HK.out).2.2
    have hn256:=HF.out (i+1) (by have:=HL2.out; omega)
    have HP:=hide (pfirst_at b off len i c' f wr (by rw [← HRR.out]; exact hrc) (by omega) HF.out hcw.out HK.out)
    rw [← HRR.out] at HP
    have HSN:=hide (goodP_snoc acc (segAt f i) HAL.out)
    have HSL:Hid ((segAt f i).2.length=f (i+1)):=numsAt_length _ _ _
    have HSS:=hide (sumP_snoc acc (segAt f i))
    have HSA:Hid ((acc++[segAt f i]).all okS=(acc.all okS && okS (segAt f i))):=by show List.all _ _=_; simp
    generalize hni:i+2+4 * f (i+1)=i2 at *
    have HNI:Hid (i < i2):=by show i < i2; omega
    generalize f (i+1)=n at *
    generalize segAt f i=sg at *
    obtain ⟨b1,zs⟩:=sg
    clear hni HE HC
    simp only at HSL HSS HP
    generalize hr2:len - i2=r2 at *
    have HR2:=hide hr2
    clear hr2
    go_wp2_with fail
    refine HP.out.mono ?_
    rintro e w2 ⟨g,a2,c2,rfl,hc2,ha2,hog,hb⟩
    have HB2:Hid (Below w.heap.size w w2):=HB.out.trans (hb.mono HB.out.size)
    have HO2:=hide (HO.out.later hb)
    have HCH2:=hide (HCH.out.later hb)
    have HOG:Hid (w2.ownsRow (w.heap.size+9) 3 1 (.slice (some ⟨g,0,none⟩) n n) n (icells zs)):=own_base hog (by have:=HCH.out.size; omega)
    have HC2:=hide hc2
    have HA2:=hide ha2
    clear hb hog hc2 ha2 HP HO HB HCH hcw
    have HCK:Hid (∀ w3:World,Below w2.heap.size w2 w3→Calls Tryz.prog 159 #[segV b1 (some ⟨g,0,none⟩) n n,.pointer (some ⟨w.heap.size+6,0,none⟩),.pointer (some ⟨w.heap.size+7,0,none⟩),.pointer (some ⟨w.heap.size+8,0,none⟩)] w3 fun e w' =>
     e=.returned (.bool (okS (b1,zs) && decide (x+n≤64)))∧Keeps (fun b=>b=w.heap.size+5) w3 w'∧((okS (b1,zs) && decide (x+n≤64))=true→Chk w' w.heap.size (x+n))):=fun w3 hb3=>by
     have hlz:=HSL.out
     have h9:=own_ird (w:=w3) (zs:=zs) (by rw [hlz]; exact own_later HOG.out hb3)
     obtain ⟨a9,c9,e9,hr9⟩:=h9
     simp only [Value.slice.injEq] at e9
     obtain ⟨e9,_,_⟩:=e9
     rw [← e9] at hr9
     have:=check_any b1 (some ⟨g,0,none⟩) n zs w.heap.size x w3 (by omega) (by omega) (HCH2.out.later hb3) hr9
     rw [hlz] at this
     exact this
    have hz2:g < w2.heap.size:=by
     have:=own_block HOG.out g rfl
     exact this.2
    go_wp2_with fail
    refine (HCK.out (w2.alloc (.cells #[.bool b1,.slice (some ⟨g,0,none⟩) n n] 136)) ((Below.refl _ _).alloc (Nat.le_refl _) _)).mono ?_
    rintro e w3 ⟨rfl,hk3,hi3⟩
    have hs9:=HCH2.out.size
    have q0:w3.cell? ⟨w2.heap.size,0,none⟩=some (.bool b1):=by rw [hk3.cell ⟨w2.heap.size,0,none⟩ (by simp) (by show ¬ (w2.heap.size=_); omega)]; simp [go_sem]
    have q1:w3.cell? ⟨w2.heap.size,1,none⟩=some (.slice (some ⟨g,0,none⟩) n n):=by rw [hk3.cell ⟨w2.heap.size,1,none⟩ (by simp) (by show ¬ (w2.heap.size=_); omega)]; simp [go_sem]
    have hz3:w2.heap.size < w3.heap.size:=by have:=hk3.size; simp at this; omega
    have HB3:Hid (Below w.heap.size w w3):=(HB2.out.alloc HB2.out.size _).trans (hk3.below w.heap.size (by simp; omega) (fun b h=>by omega))
    have HO3:Hid (OwnPath w3 (w.heap.size+9) _ acc):=(HO2.out.later ((Below.refl _ _).alloc (Nat.le_refl _) _)).keeps hk3 (fun k h=>by omega)
    have HOG3:Hid (w3.ownsRow (w.heap.size+9) 3 1 (.slice (some ⟨g,0,none⟩) n n) n (icells zs)):=own_keeps (HOG.out.alloc _) hk3 (fun k h=>by omega)
    have HI3:=hide hi3
    clear hk3 hi3 HCK HO2 HOG HCH2 HB2
    cases hr:(okS (b1,zs) && decide (x+n≤64)) with
    | false =>
     have HN:Hid (segsRun f len 0 []=none):=by
      show segsRun f len 0 []=none
      rw [HE1.out]
      refine segsRun_bad ?_
      rw [HSN.out,← HX.out,← hr,← HSL.out]
     clear hr
     go_wp2
     go_ret2
     exact ⟨by rw [HN.out]; rfl,HB3.out⟩
    | true =>
     have HCH4:=hide (HI3.out hr)
     obtain ⟨t1,t2⟩:=(Bool.and_eq_true _ _).mp hr
     have HOK:=hide t1
     have hx2:x+n≤64:=of_decide_eq_true t2
     clear hr t1 t2 HI3
     obtain ⟨v4,w4,hr4,ho4,hb4⟩:=HO3.out.snoc (b:=b1) (zs:=zs) (u:=.slice (some ⟨g,0,none⟩) n n) (by rw [HSL.out]; exact HOG3.out) rfl (by omega) (by omega) w3.heap.size rfl
     have HR4:=hide hr4
     have HO4:=hide ho4
     have HB4:Hid (Below w.heap.size w w4):=HB3.out.trans (hb4.mono (by omega))
     have HCH5:=hide (HCH4.out.under hb4)
     clear hr4 ho4 hb4 HO3 HOG3 HCH4 HB3
     go_wp2_with fail
     refine kept_appendS_intro _ _ _ (.slice (some ⟨w3.heap.size,0,none⟩) 1 1) v4 (w':=w4) (by rfl) (by rfl) (by exact HR4.out) ?_
     go_wp2
     exact ⟨⟨i2,acc++[(b1,zs)],a2,c2,r2,x+n,rfl,HR2.out.symm,HL2.out,HC2.out,hx2,by show x+n=_; rw [HSS.out,HX.out,HSL.out],by show List.all _ _=true; rw [HSA.out,HAL.out,HOK.out]; rfl,HA2,HO4,HB4,HCH5,HE1,by have:=HNI.out; simp; omega⟩,by have:=HNI.out; have:=HRR.out; have:=HR2.out; have:=HL2.out; simp [sliceLen]; omega⟩
  ·have HN:Hid (segsRun f len 0 []=some acc):=by
    show segsRun f len 0 []=some acc
    rw [HE.out,segsRun_end hlt]
    unfold fin goodP
    rw [HAL.out,← HX.out,decide_eq_true hx]; rfl
   have hr0:r=0:=by omega
   subst hr0
   go_wp2
   go_ret2
   exact ⟨by rw [HN.out]; exact ⟨_,rfl,HO.out.base (by omega)⟩,HB.out⟩
end
set_option maxHeartbeats 400000 in
theorem pdecode_empty (a:Option Addr)(cap:Nat)(f:Nat→Nat)(w:World) :
  Calls Tryz.prog 125 #[.slice a 0 cap] w fun e w'=>PthRes w w' (segsRun f 0 0 []) e∧Below w.heap.size w w':=by
 have HN:Hid (segsRun f 0 0 []=some []):=segsRun_end (by omega)
 go_enter Tryz.func125,Tryz.ntmps125
 go_wp2_with fail
 refine (gob_any _).mono ?_
 rintro e w1 ⟨rfl,hk1,hb1⟩
 unfold chkV
 have HB1:=hide hb1
 clear hk1 hb1
 go_wp2
 go_loop [0,5] (fun s v=>s=.slice a 0 cap∧v=.slice none 0 0) (fun s _=>sliceLen s)
 case atStart=>exact ⟨rfl,rfl⟩
 case round =>
  obtain ⟨rfl,rfl⟩:=hrel
  go_wp2
  go_ret2
  exact ⟨by rw [HN.out]; exact ⟨_,rfl,OwnPath.nil _ _⟩,HB1.out⟩
theorem pdecode_any (a:Option Addr)(len cap:Nat)(f:Nat→Nat)(w:World)(hl:len≤10000)(hlc:len≤cap)(hf:∀ j,j < len→f j < 256)(h:Rw w a len f) :
  Calls Tryz.prog 125 #[.slice a len cap] w fun e w'=>PthRes w w' (segsRun f len 0 []) e∧Below w.heap.size w w':=by
 by_cases h0:len=0
 ·subst h0; exact pdecode_empty a cap f w
 ·obtain ⟨b,off,rfl,hc⟩:=h.2 (by omega)
  exact pdecode_some b off len cap f w hl hlc hf hc
def flagsOk (fl ty:Nat):Bool:=!decide (fl / 64 * 64≠wantF ty∨fl / 32 % 2=1∧ty < 7)
theorem wantF_eq (ty:Nat):wantF ty=flagN ty:=rfl
theorem and64n (x y:Nat)(hx:x < 256)(hy:y < 256):bits .and .i64 (x:Int) (y:Int)=((x &&& y:Nat):Int) :=
 (bits_nat .i64 8 (by decide) (fun n h0 h1=>by rw [IntKind.wrap_i64]; simp only [Int.reducePow] at h1; omega) _ _ (by simpa using hx) (by simpa using hy)).1
theorem fl192 (x:Nat)(h:x < 256):decide (x &&& 192=192)=decide (x / 64 * 64=192):=by
 have key:∀ y:Fin 256,decide ((y:Nat) &&& 192=192)=decide ((y:Nat) / 64 * 64=192):=by decide +kernel
 exact key ⟨x,h⟩
theorem fl224 (x t:Nat)(h:x < 256)(ht:t=64∨t=128):decide (x &&& 224=t)=decide (x / 64 * 64=t∧x / 32 % 2=0):=by
 have k1:∀ y:Fin 256,decide ((y:Nat) &&& 224=64)=decide ((y:Nat) / 64 * 64=64∧(y:Nat) / 32 % 2=0):=by decide +kernel
 have k2:∀ y:Fin 256,decide ((y:Nat) &&& 224=128)=decide ((y:Nat) / 64 * 64=128∧(y:Nat) / 32 % 2=0):=by decide +kernel
 rcases ht with rfl | rfl
 ·exact k1 ⟨x,h⟩
 ·exact k2 ⟨x,h⟩
set_option maxHeartbeats 800000 in
theorem hasFlags_any (fl ty:Nat)(a1:Option Addr)(n1 c1:Nat)(a2:Option Addr)(n2 c2:Nat)(w:World)(hS:Said w)(hf:fl < 256)(h1:1≤ty)(h8:ty≤8) :
  Calls Tryz.prog 98 #[partV (fl:Int) (ty:Int) a1 n1 c1 a2 n2 c2] w fun e w'=>e=.returned (.bool (flagsOk fl ty))∧Below w.heap.size w w':=by
 obtain ⟨c0,_,_,_⟩:=hS.at ty h1 h8
 have hp:=hS.pos
 have k0:(0:Int)≤(ty:Int):=Int.natCast_nonneg _
 have k9:(ty:Int) < 9:=by omega
 have hv:flagN ty=64∨flagN ty=128∨flagN ty=192:=by unfold flagN; repeat (first | omega | split)
 have h192:flagN ty=192↔(ty=7∨ty=8):=by unfold flagN; repeat (first | omega | split)
 unfold flagsOk
 rw [wantF_eq]
 unfold partV
 clear hS
 by_cases h9:flagN ty=192
 ·rw [h9] at c0
  have HD:Hid ((!decide (fl / 64 * 64≠flagN ty∨fl / 32 % 2=1∧ty < 7))=((bits .and .i64 (fl:Int) 192) == 192)):=by
   show (!decide _)=_
   have:=and64n fl 192 hf (by decide)
   have e:bits .and .i64 (fl:Int) 192=((fl &&& 192:Nat):Int):=this
   rw [e,h9]
   have e2:=fl192 fl hf
   have e3:((((fl &&& 192:Nat):Int)) == 192)=decide (fl &&& 192=192):=by rw [Bool.eq_iff_iff]; simp only [beq_iff_eq,decide_eq_true_eq]; omega
   rw [e3,e2,Bool.eq_iff_iff]
   simp only [Bool.not_eq_true',decide_eq_false_iff_not,decide_eq_true_eq]
   have:=h192.1 h9
   omega
  clear hv h192
  go_enter Tryz.func98,Tryz.ntmps98
  go_wp2
  go_ret
  exact ⟨ret_bool HD.out.symm,(Below.refl _ _).alloc (Nat.le_refl _) _⟩
 ·have hn:¬ (ty=7∨ty=8):=fun h=>h9 (h192.2 h)
  have HD:Hid ((!decide (fl / 64 * 64≠flagN ty∨fl / 32 % 2=1∧ty < 7))=((bits .and .i64 (fl:Int) 224) == (flagN ty:Int))):=by
   show (!decide _)=_
   have:=and64n fl 224 hf (by decide)
   have e:bits .and .i64 (fl:Int) 224=((fl &&& 224:Nat):Int):=this
   rw [e]
   have e2:=fl224 fl (flagN ty) hf (by omega)
   have e3:((((fl &&& 224:Nat):Int)) == (flagN ty:Int))=decide (fl &&& 224=flagN ty):=by rw [Bool.eq_iff_iff]; simp only [beq_iff_eq,decide_eq_true_eq]; omega
   rw [e3,e2,Bool.eq_iff_iff]
   simp only [Bool.not_eq_true',decide_eq_false_iff_not,decide_eq_true_eq]
   omega
  have f9:((flagN ty:Int) == 192)=false:=by simp; omega
  rw [HD.out]
  clear hv h192 h9 HD
  generalize flagN ty=v at *
  go_enter Tryz.func98,Tryz.ntmps98
  go_wp2
  go_ret
  exact ⟨rfl,(Below.refl _ _).alloc (Nat.le_refl _) _⟩
def PathRes (w w':World)(r:Option (List (Bool×List Int)))(e:Ending):Prop :=
 match r with
 | none=>Throws w w' 11 [] e
 | some ss=>∃ v,e=.returned v∧OwnPath w' w.heap.size v ss∧Below w.heap.size w w'
set_option maxHeartbeats 1600000 in
theorem readPath_any (fl ty:Int)(a1:Option Addr)(c1:Nat)(a2:Option Addr)(n2 c2:Nat)(d:List Nat)(w:World)(hl:d.length≤10000)(hc:d.length≤c1)(h:BRd w a1 d) :
  Calls Tryz.prog 101 #[partV fl ty a1 d.length c1 a2 n2 c2] w fun e w'=>PathRes w w' (segsRun (fun q=>d.getD q 0) d.length 0 []) e:=by
 have hb:∀ o,Below w.heap.size w (w.alloc o):=fun o=>(Below.refl _ _).alloc (Nat.le_refl _) _
 have K:Hid (∀ o,Calls Tryz.prog 125 #[.slice a1 d.length c1] (w.alloc o) fun e w'=>PthRes (w.alloc o) w' (segsRun (fun q=>d.getD q 0) d.length 0 []) e∧Below (w.alloc o).heap.size (w.alloc o) w'):=fun o=>pdecode_any a1 d.length c1 (fun q=>d.getD q 0) (w.alloc o) hl hc (fun j hj=>by
  rw [List.getD_eq_getElem?_getD,List.getElem?_eq_getElem hj]
  exact h.2 _ (List.getElem_mem hj)) (h.below (hb o)).1
 have KT:Hid (∀ w1,Below w.heap.size w w1→Calls Tryz.prog 70 #[.int .i64 11,.slice none 0 0] w1 fun e w'=>Throws w w' 11 [] e):=fun w1 hb=>throw_nil 11 w w1 hb
 have HB:=hide hb
 clear h hb
 unfold partV
 generalize segsRun (fun q=>d.getD q 0) d.length 0 []=r at *
 generalize d.length=n at *
 cases r with
 | none =>
  unfold PathRes
  unfold PthRes at K
  unfold Throws at KT ⊢
  unfold thrown at KT ⊢
  go_enter Tryz.func101,Tryz.ntmps101
  go_wp2_with fail
  refine (K.out _).mono ?_
  rintro e w1 ⟨he,hb1⟩
  obtain rfl:=he
  go_wp2_with fail
  refine (KT.out _ ((HB.out _).trans (hb1.mono (by simp)))).mono ?_
  rintro e w2 ⟨a9,c9,rfl,ho,hb2⟩
  go_wp2
  exact ⟨rfl,a9,c9,rfl,ho,hb2⟩
 | some ss =>
  unfold PathRes
  unfold PthRes at K
  clear KT
  go_enter Tryz.func101,Tryz.ntmps101
  go_wp2_with fail
  refine (K.out _).mono ?_
  rintro e w1 ⟨⟨v,he,ho⟩,hb1⟩
  obtain rfl:=he
  go_wp2
  go_ret
  refine ⟨v,rfl,?_,(HB.out _).trans (hb1.mono (by simp))⟩
  exact ho.base (by simp)
theorem OwnPath.under {w:World}{B X:Nat}{v:Value}{ss:List (Bool×List Int)} (h:OwnPath w B v ss) (hX:X < B) (j:Nat) (u:Value):OwnPath (w.setCell ⟨X,j,none⟩ u) B v ss:=by
 obtain ⟨cs,ho,hc⟩:=h
 refine ⟨cs,own_under ho hX j u,fun i s hi=>?_⟩
 obtain ⟨h1,x,h2,h3⟩:=hc i s hi
 exact ⟨h1,x,h2,own_under h3 hX j u⟩
theorem OwnRaws.under {w:World}{B X:Nat}{v:Value}{rs:List (Int×Int×List Nat)} (h:OwnRaws w B v rs) (hX:X < B) (j:Nat) (u:Value):OwnRaws (w.setCell ⟨X,j,none⟩ u) B v rs:=by
 obtain ⟨cs,ho,hc⟩:=h
 refine ⟨cs,own_under ho hX j u,fun i s hi=>?_⟩
 obtain ⟨h1,h2,x,h3,h4⟩:=hc i s hi
 exact ⟨h1,h2,x,h3,own_under h4 hX j u⟩
theorem OwnPath.grown {w w':World}{B e size n:Nat}{v v0:Value}{xs:List Value}{ss:List (Bool×List Int)} (h:OwnPath w B v ss) (h0:w.ownsRow B e size v0 n xs) (hg:w.grownBy w' v0.ownBlock) (h1:136≠e) (h2:3≠e):OwnPath w' B v ss:=by
 obtain ⟨cs,ho,hc⟩:=h
 refine ⟨cs,own_grown ho hg (fun b hb=>own_apart ho h0 h1 b hb),fun i s hi=>?_⟩
 obtain ⟨g1,x,g2,g3⟩:=hc i s hi
 exact ⟨g1,x,g2,own_grown g3 hg (fun b hb=>own_apart g3 h0 h2 b hb)⟩
theorem own_path_shape {w:World}{B:Nat}{v:Value}{ss:List (Bool×List Int)} (h:OwnPath w B v ss):∃ a c,v=.slice a ss.length c:=by
 obtain ⟨cs,ho,_⟩:=h
 exact own_shape ho
structure Box (w:World) (X B:Nat) (a:At):Prop where
 c0:w.cell? ⟨X,0,none⟩=some (.int .i64 a.origin)
 c1:∃ p c,w.cell? ⟨X,1,none⟩=some (.slice p a.path.length c)∧OwnPath w B (.slice p a.path.length c) a.path
 c2:w.cell? ⟨X,2,none⟩=some (.int .u32 (a.next:Int))
 c3:w.cell? ⟨X,3,none⟩=some (.int .i64 a.med)
 c4:w.cell? ⟨X,4,none⟩=some (.int .i64 a.pref)
 c5:∃ p c,w.cell? ⟨X,5,none⟩=some (.slice p a.comms.length c)∧w.ownsRow B 24 1 (.slice p a.comms.length c) a.comms.length (ucells a.comms)
 c6:∃ p c,w.cell? ⟨X,6,none⟩=some (.slice p a.raws.length c)∧OwnRaws w B (.slice p a.raws.length c) a.raws
 fz:∀ j,w.frozen? ⟨X,j,none⟩=false
 lt:X < B
theorem Box.pos {w:World}{X B:Nat}{a:At} (h:Box w X B a):X < w.heap.size:=by
 have:=World.block_lt_of_cell? w _ h.c0
 simpa using this
theorem Box.later {w w':World}{X B:Nat}{a:At} (h:Box w X B a) (hb:Below w.heap.size w w'):Box w' X B a:=by
 have hX:=h.pos
 have e:∀ j,w'.cell? ⟨X,j,none⟩=w.cell? ⟨X,j,none⟩:=fun j=>hb.cell (p:=⟨X,j,none⟩) hX
 obtain ⟨p1,k1,g1,o1⟩:=h.c1
 obtain ⟨p5,k5,g5,o5⟩:=h.c5
 obtain ⟨p6,k6,g6,o6⟩:=h.c6
 exact ⟨by rw [e]; exact h.c0,⟨p1,k1,by rw [e]; exact g1,o1.later hb⟩,by rw [e]; exact h.c2,by rw [e]; exact h.c3,by rw [e]; exact h.c4,⟨p5,k5,by rw [e]; exact g5,own_later o5 hb⟩,⟨p6,k6,by rw [e]; exact g6,o6.later hb⟩,fun j=>by rw [hb.frozen (p:=⟨X,j,none⟩) hX]; exact h.fz j,h.lt⟩
theorem Box.set {w:World}{X B:Nat}{a a':At} (h:Box w X B a) (k:Nat) (u:Value)
  (g0:(if k=0 then u else .int .i64 a.origin)=.int .i64 a'.origin)
  (g1:if k=1 then ∃ p c,u=.slice p a'.path.length c∧OwnPath w B u a'.path else a'.path=a.path)
  (g2:(if k=2 then u else .int .u32 (a.next:Int))=.int .u32 (a'.next:Int))
  (g3:(if k=3 then u else .int .i64 a.med)=.int .i64 a'.med)
  (g4:(if k=4 then u else .int .i64 a.pref)=.int .i64 a'.pref)
  (g5:if k=5 then ∃ p c,u=.slice p a'.comms.length c∧w.ownsRow B 24 1 u a'.comms.length (ucells a'.comms) else a'.comms=a.comms)
  (g6:if k=6 then ∃ p c,u=.slice p a'.raws.length c∧OwnRaws w B u a'.raws else a'.raws=a.raws):Box (w.setCell ⟨X,k,none⟩ u) X B a':=by
 have hX:=h.lt
 have key:∀ (j:Nat) (v:Value),w.cell? ⟨X,j,none⟩=some v→(w.setCell ⟨X,k,none⟩ u).cell? ⟨X,j,none⟩=some (if k=j then u else v):=fun j v hj=>by
  by_cases e:k=j
  ·subst e
   rw [if_pos rfl]
   exact World.cell?_setCell_same _ _ _ hj
  ·rw [if_neg e,World.cell?_setCell_other _ _ _ _ (by intro e9; injection e9 with _ e2 _; exact e e2)]
   exact hj
 obtain ⟨p1,k1,q1,o1⟩:=h.c1
 obtain ⟨p5,k5,q5,o5⟩:=h.c5
 obtain ⟨p6,k6,q6,o6⟩:=h.c6
 refine ⟨?_,?_,?_,?_,?_,?_,?_,fun j=>by rw [World.frozen?_setCell]; exact h.fz j,hX⟩
 ·rw [key 0 _ h.c0,g0]
 ·by_cases e:k=1
  ·rw [if_pos e] at g1
   obtain ⟨p,c,e1,o⟩:=g1
   refine ⟨p,c,?_,?_⟩
   ·rw [key 1 _ q1,if_pos e,e1]
   ·rw [← e1]; exact o.under hX _ _
  ·rw [if_neg e] at g1
   rw [g1]
   exact ⟨p1,k1,by rw [key 1 _ q1,if_neg e],o1.under hX _ _⟩
 ·rw [key 2 _ h.c2,g2]
 ·rw [key 3 _ h.c3,g3]
 ·rw [key 4 _ h.c4,g4]
 ·by_cases e:k=5
  ·rw [if_pos e] at g5
   obtain ⟨p,c,e1,o⟩:=g5
   refine ⟨p,c,?_,?_⟩
   ·rw [key 5 _ q5,if_pos e,e1]
   ·rw [← e1]; exact own_under o hX _ _
  ·rw [if_neg e] at g5
   rw [g5]
   exact ⟨p5,k5,by rw [key 5 _ q5,if_neg e],own_under o5 hX _ _⟩
 ·by_cases e:k=6
  ·rw [if_pos e] at g6
   obtain ⟨p,c,e1,o⟩:=g6
   refine ⟨p,c,?_,?_⟩
   ·rw [key 6 _ q6,if_pos e,e1]
   ·rw [← e1]; exact o.under hX _ _
  ·rw [if_neg e] at g6
   rw [g6]
   exact ⟨p6,k6,by rw [key 6 _ q6,if_neg e],o6.under hX _ _⟩
theorem Box.snoc {w:World}{X B:Nat}{a:At}{p:Option Addr}{c:Nat}{u:Value}{f t:Int}{ds:List Nat} (h:Box w X B a) (hB:B≤w.heap.size) (hl:a.raws.length≤100000) (hv:w.cell? ⟨X,6,none⟩=some (.slice p a.raws.length c)) (hu:w.ownsRow B 5 1 u ds.length (bcells ds)) (H:Nat) (hH:w.heap.size=H) :
  ∃ p' c' w',(Builtin.append_ #[32,32] 32 #[.slice p a.raws.length c,.slice (some ⟨H,0,none⟩) 1 1]).run Tryz.prog (w.alloc (.cells #[.int .i64 f,.int .i64 t,u] 104))=.ok (.slice p' (a.raws.length+1) c') w'∧Below B w w'∧Box (w'.setCell ⟨X,6,none⟩ (.slice p' (a.raws.length+1) c')) X B { a with raws:=a.raws++[(f,t,ds)] }:=by
 subst hH
 have hone:u.oneCell'=true:=own_one hu
 obtain ⟨p6,k6,q6,o6⟩:=h.c6
 rw [hv] at q6
 simp only [Option.some.injEq,Value.slice.injEq,true_and] at q6
 obtain ⟨rfl,rfl⟩:=q6
 obtain ⟨p1,k1,q1,o1⟩:=h.c1
 obtain ⟨p5,k5,q5,o5⟩:=h.c5
 obtain ⟨cs,ho,hc⟩:=o6
 have hb1:Below B w (w.alloc (.cells #[.int .i64 f,.int .i64 t,u] 104)):=(Below.refl _ _).alloc hB _
 have hbw:Below w.heap.size w (w.alloc (.cells #[.int .i64 f,.int .i64 t,u] 104)):=(Below.refl _ _).alloc (Nat.le_refl _) _
 have hoa:=ho.alloc (.cells #[.int .i64 f,.int .i64 t,u] 104)
 obtain ⟨v',w',hr,h2,h3,h4,_⟩:=app_more elemRaw (w:=w.alloc (.cells #[.int .i64 f,.int .i64 t,u] 104)) hoa (by simp; omega) ⟨w.heap.size,0,none⟩ 1 1 [.int .i64 f,.int .i64 t,u] rfl (fun j x hx=>by
  rw [Addr.add_mid,Nat.zero_add,World.cell?_alloc_mark]
  simpa using hx) (by intro x hx; simp at hx; rcases hx with rfl | rfl | rfl; rfl; rfl; exact hone) (by omega)
 obtain ⟨p',c',e'⟩:=own_shape h2
 subst e'
 have hB2:=h.lt
 have hbb:Below B w w':=hb1.trans h3
 have hap:∀ (x:Value) (ys:List Nat),w.ownsRow B 5 1 x ys.length (bcells ys)→w'.ownsRow B 5 1 x ys.length (bcells ys):=fun x ys hx =>
  own_grown (own_later hx hbw) h4 (fun k hk=>own_apart hx ho (by decide) k hk)
 have hcl:cs.length=a.raws.length * 3:=ho.1
 have hR:OwnRaws w' B (.slice p' (a.raws.length+1) c') (a.raws++[(f,t,ds)]):=by
  refine ⟨_,by rw [List.length_append]; exact h2,fun i s hi=>?_⟩
  by_cases hlt:i < a.raws.length
  ·rw [List.getElem?_append_left hlt] at hi
   obtain ⟨g1,g2,x,g3,g4⟩:=hc i s hi
   exact ⟨by rw [List.getElem?_append_left (by omega)]; exact g1,by rw [List.getElem?_append_left (by omega)]; exact g2,x,by rw [List.getElem?_append_left (by omega)]; exact g3,hap x _ g4⟩
  ·rw [List.getElem?_append_right (by omega)] at hi
   have hi0:i - a.raws.length=0:=by
    have:=(List.getElem?_eq_some_iff.1 hi).1
    simpa using this
   rw [hi0] at hi
   simp at hi
   subst hi
   have e1:i=a.raws.length:=by omega
   subst e1
   refine ⟨by rw [List.getElem?_append_right (by omega),hcl,Nat.sub_self]; rfl,by rw [List.getElem?_append_right (by omega),show a.raws.length * 3+1 - cs.length=1 from by omega]; rfl,u,by rw [List.getElem?_append_right (by omega),show a.raws.length * 3+2 - cs.length=2 from by omega]; rfl,hap u ds hu⟩
 have eX:∀ j,w'.cell? ⟨X,j,none⟩=w.cell? ⟨X,j,none⟩:=fun j=>hbb.cell (p:=⟨X,j,none⟩) hB2
 have fX:∀ j,w'.frozen? ⟨X,j,none⟩=false:=fun j=>by rw [hbb.frozen (p:=⟨X,j,none⟩) hB2]; exact h.fz j
 have oP:OwnPath w' B (.slice p1 a.path.length k1) a.path:=(o1.later hbw).grown hoa h4 (by decide) (by decide)
 have oC:w'.ownsRow B 24 1 (.slice p5 a.comms.length k5) a.comms.length (ucells a.comms):=own_grown (own_later o5 hbw) h4 (fun k hk=>own_apart o5 ho (by decide) k hk)
 have key:∀ (j:Nat) (v:Value),j≠6→w.cell? ⟨X,j,none⟩=some v→(w'.setCell ⟨X,6,none⟩ (.slice p' (a.raws.length+1) c')).cell? ⟨X,j,none⟩=some v:=fun j v hj hv9=>by
  rw [World.cell?_setCell_other _ _ _ _ (by intro e9; injection e9 with _ e2 _; exact hj e2.symm),eX]
  exact hv9
 refine ⟨p',c',w',hr,hbb,?_⟩
 ·exact ⟨key 0 _ (by omega) h.c0,⟨p1,k1,key 1 _ (by omega) q1,oP.under hB2 _ _⟩,key 2 _ (by omega) h.c2,key 3 _ (by omega) h.c3,key 4 _ (by omega) h.c4,⟨p5,k5,key 5 _ (by omega) q5,own_under oC hB2 _ _⟩,⟨p',c',by
   rw [List.length_append]
   exact World.cell?_setCell_same _ _ _ (by rw [eX]; exact hv),by
   rw [List.length_append]
   exact hR.under hB2 _ _⟩,fun j=>by rw [World.frozen?_setCell]; exact fX j,hB2⟩
def NotBox (X B:Nat)(b:Nat):Prop:=b=X∨B≤b
theorem keeps_box {X B:Nat}{w w':World} (h:Below w.heap.size w w'):Keeps (NotBox X B) w w':=Keeps.of_below h _
theorem keeps_low {X B:Nat}{w w1 w2:World} (h:Keeps (NotBox X B) w w1) (k:Below B w1 w2):Keeps (NotBox X B) w w2 :=
 ⟨k.os.trans h.os,k.tape.trans h.tape,k.output.trans h.output,Nat.le_trans h.size k.size,fun b hb hn=>by
  rw [k.block b (by unfold NotBox at hn; omega)]
  exact h.block b hb hn⟩
def ThrowsB (X B:Nat)(w w':World)(s:Int)(d:List Nat)(e:Ending):Prop:=∃ a9 c9,e=thrown s a9 d.length c9∧w'.ownsRow w.heap.size 5 1 (.slice a9 d.length c9) d.length (bcells d)∧Keeps (NotBox X B) w w'∧∃ a',Box w' X B a'
theorem Throws.box {X B:Nat}{w w':World}{s:Int}{d:List Nat}{e:Ending}{a:At} (h:Throws w w' s d e) (hb:Box w X B a):ThrowsB X B w w' s d e:=by
 obtain ⟨a9,c9,he,ho,hb2⟩:=h
 exact ⟨a9,c9,he,ho,keeps_box hb2,a,hb.later hb2⟩
def IntoRes (X B:Nat)(w w':World)(r:Res)(e:Ending):Prop :=
 match r with
 | .inl n=>ThrowsB X B w w' (n.2.1:Int) n.2.2 e
 | .inr a'=>e=.returned (.tuple #[])∧Box w' X B a'∧Keeps (NotBox X B) w w'
end Go.Proofs.YtogbjeaceboemaaGreatDoor
