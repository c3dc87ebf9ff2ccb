import Derived.Test.YtogbjeaceboemaaGreatDoorPA1
import Derived.Test.YtogbjeaceboemaaGreatDoorPA2
import Derived.Deep.QuietTactic
import Derived.BigQuiet
import Derived.Test.YtogbjeaceboemaaGreatDoorPA0
import Derived.Test.YtogbjeaceboemaaGreatDoorPA3
namespace Go.Proofs.YtogbjeaceboemaaGreatDoor
open Go.RowKit
set_option maxRecDepth 100000
structure At where
 origin:Int
 path:List (Bool×List Int)
 next:Nat
 med:Int
 pref:Int
 comms:List Nat
 raws:List (Int×Int×List Nat)
def hopB (n:Nat):Bool:=decide (n≠0∧n / 16777216≠127∧n / 16777216 < 224)
def rawK (r:Int×Int×List Nat):Bool:=decide (r.2.1=6∧r.1=64∧r.2.2.length=0∨r.2.1=7∧r.1=192∧r.2.2.length=8∨8 < r.2.1∧r.2.1≤255∧r.1=224∧r.2.2.length≤255)
def typAt (rs:List (Int×Int×List Nat))(i:Nat):Int:=(rs.getD i (0,0,[])).2.1
def rawsUp (rs:List (Int×Int×List Nat)):Nat→Bool
 | 0=>true
 | k+1=>rawsUp rs k && rawK (rs.getD k (0,0,[])) && (decide (k=0) || decide (typAt rs (k - 1) < typAt rs k))
def headA (a:At):Bool:=decide (0≤a.origin∧a.origin≤2) && goodP a.path && hopB a.next && decide (-1≤a.med∧a.med≤4294967295) && decide (-1≤a.pref∧a.pref≤4294967295) && decide (a.comms.length≤32)
def goodA (a:At):Bool:=headA a && rawsUp a.raws a.raws.length
def CRd (w:World)(a:Option Addr)(cs:List Nat):Prop:=0 < cs.length→∃ b off,a=some ⟨b,off,none⟩∧∀ (j z:Nat),cs[j]?=some z→w.cell? ⟨b,off+j,none⟩=some (.int .u32 (z:Int))
theorem CRd.below {w w':World}{a:Option Addr}{cs:List Nat} (h:CRd w a cs) (hb:Below w.heap.size w w'):CRd w' a cs:=fun hp=>by
 obtain ⟨b,off,rfl,hc⟩:=h hp
 exact ⟨b,off,rfl,fun j z hj=>by rw [hb.cell (p:=⟨b,off+j,none⟩) (World.block_lt_of_cell? w _ (hc j z hj))]; exact hc j z hj⟩
def RawAt (w:World)(b off:Nat)(rs:List (Int×Int×List Nat)):Prop :=
 ∀ i r,rs[i]?=some r→w.cell? ⟨b,off+i * 3,none⟩=some (.int .i64 r.1)∧w.cell? ⟨b,off+i * 3+1,none⟩=some (.int .i64 r.2.1)∧∃ a' c',w.cell? ⟨b,off+i * 3+2,none⟩=some (.slice a' r.2.2.length c')∧r.2.2.length≤c'∧BRd w a' r.2.2
theorem RawAt.below {w w':World}{b off:Nat}{rs:List (Int×Int×List Nat)} (h:RawAt w b off rs) (hb:Below w.heap.size w w'):RawAt w' b off rs:=fun i r hi=>by
 obtain ⟨h1,h2,a',c',h3,h4,h5⟩:=h i r hi
 exact ⟨by rw [hb.cell (p:=⟨b,off+i * 3,none⟩) (World.block_lt_of_cell? w _ h1)]; exact h1,by rw [hb.cell (p:=⟨b,off+i * 3+1,none⟩) (World.block_lt_of_cell? w _ h2)]; exact h2,a',c',by rw [hb.cell (p:=⟨b,off+i * 3+2,none⟩) (World.block_lt_of_cell? w _ h3)]; exact h3,h4,h5.below hb⟩
def RawRd (w:World)(a:Option Addr)(rs:List (Int×Int×List Nat)):Prop:=0 < rs.length→∃ b off,a=some ⟨b,off,none⟩∧RawAt w b off rs
theorem RawRd.below {w w':World}{a:Option Addr}{rs:List (Int×Int×List Nat)} (h:RawRd w a rs) (hb:Below w.heap.size w w'):RawRd w' a rs:=fun hp=>by
 obtain ⟨b,off,rfl,hc⟩:=h hp
 exact ⟨b,off,rfl,hc.below hb⟩
def sumR:List (Int×Int×List Nat)→Nat
 | []=>0
 | r :: l=>r.2.2.length+sumR l
theorem sumR_mem (l:List (Int×Int×List Nat))(r:Int×Int×List Nat)(h:r∈l):r.2.2.length≤sumR l:=by
 induction l with
 | nil=>simp at h
 | cons a l ih =>
  simp only [sumR]
  rcases List.mem_cons.1 h with rfl | h
  ·omega
  ·have:=ih h; omega
structure AtRd (w:World) (pa ca ra:Option Addr) (a:At):Prop where
 path:PthRd w pa a.path
 comms:CRd w ca a.comms
 raws:RawRd w ra a.raws
 next:a.next < 4294967296
theorem AtRd.below {w w':World}{pa ca ra:Option Addr}{a:At} (h:AtRd w pa ca ra a) (hb:Below w.heap.size w w'):AtRd w' pa ca ra a:=⟨h.path.below hb,h.comms.below hb,h.raws.below hb,h.next⟩
def atV (pa:Option Addr)(pc:Nat)(ca:Option Addr)(cc:Nat)(ra:Option Addr)(rc:Nat)(a:At):Value :=
 .agg #[.int .i64 a.origin,.slice pa a.path.length pc,.int .u32 (a.next:Int),.int .i64 a.med,.int .i64 a.pref,.slice ca a.comms.length cc,.slice ra a.raws.length rc]
def sizeA (a:At):Nat:=a.path.length+sumP a.path+a.comms.length+a.raws.length+sumR a.raws
theorem take_eq_all {x y:List Nat}{n:Nat} (hx:x.length=n) (hy:y.length=n) (h:x.take n=y.take n):x=y:=by
 rwa [List.take_of_length_le (by omega),List.take_of_length_le (by omega)] at h
set_option maxHeartbeats 800000 in
theorem samed_some (b1 o1 b2 o2 len c1 c2:Nat)(x y:List Nat)(w:World)(hx:x.length=len)(hy:y.length=len)(hm:len≤1000000)
  (h1:∀ i,i < len→w.cell? ⟨b1,o1+i,none⟩=some (.int .u8 ((x.getD i 0:Nat):Int))) (h2:∀ i,i < len→w.cell? ⟨b2,o2+i,none⟩=some (.int .u8 ((y.getD i 0:Nat):Int))) :
  Calls Tryz.prog 15 #[.slice (some ⟨b1,o1,none⟩) len c1,.slice (some ⟨b2,o2,none⟩) len c2] w fun e w'=>e=.returned (.bool (decide (x=y)))∧∃ m,w'=w.drewN m:=by
 have H1:=hide h1
 have H2:=hide h2
 have HX:=hide hx
 have HY:=hide hy
 clear h1 h2 hx hy
 go_enter Tryz.func15,Tryz.ntmps15
 go_wp2
 go_loopw [5] (fun i wq=>∃ k m:Nat,k≤len∧i=.int .i64 k∧Hid (wq=w.drewN m)∧Hid (x.take k=y.take k)) (fun i _=>len - (intOf i).toNat)
 case atStart=>exact ⟨0,0,Nat.zero_le _,rfl,rfl,rfl⟩
 case round =>
  obtain ⟨k,m,hk,rfl,HW,HT⟩:=hrel
  by_cases hlt:k < len
  ·have hkx:k < x.length:=by rw [HX.out]; exact hlt
   have hky:k < y.length:=by rw [HY.out]; exact hlt
   have ex:x.getD k 0=x[k]:=by rw [List.getD_eq_getElem?_getD,List.getElem?_eq_getElem hkx]; rfl
   have ey:y.getD k 0=y[k]:=by rw [List.getD_eq_getElem?_getD,List.getElem?_eq_getElem hky]; rfl
   have c1:wr.cell? ⟨b1,o1+k,none⟩=some (.int .u8 ((x[k]:Nat):Int)):=by rw [HW.out,cell_drewN,← ex]; exact H1.out k hlt
   have c2:wr.cell? ⟨b2,o2+k,none⟩=some (.int .u8 ((y[k]:Nat):Int)):=by rw [HW.out,cell_drewN,← ey]; exact H2.out k hlt
   have HTX:Hid (x.take (k+1)=x.take k++[x[k]]):=List.take_succ_eq_append_getElem hkx
   have HTY:Hid (y.take (k+1)=y.take k++[y[k]]):=List.take_succ_eq_append_getElem hky
   have HNE:Hid (x[k]≠y[k]→decide (x=y)=false):=fun h=>decide_eq_false (fun e=>by subst e; exact h rfl)
   clear ex ey
   generalize x[k]=p at *
   generalize y[k]=q at *
   have hk0:(0:Int)≤(k:Int):=Int.natCast_nonneg _
   have hk1:(k:Int) < (len:Int):=by omega
   by_cases hpq:p=q
   ·subst hpq
    have HT2:Hid (x.take (k+1)=y.take (k+1)):=by show x.take (k+1)=_; rw [HTX.out,HTY.out,HT.out]
    clear HNE HTX HTY
    go_wp2_with fail
    go_quiet (fail)
    go_wp2
    exact ⟨⟨k+1,m+nq,by omega,by go_num,show wr.drewN nq=_ by rw [HW.out,drewN_more],HT2⟩,by simp [intOf]; omega⟩
   ·have HF:=hide (HNE.out hpq)
    have hpi:((p:Int) != (q:Int))=true:=by simp; omega
    have hpn:(p != q)=true:=by simpa using hpq
    clear HNE HTX HTY
    go_wp2_with fail
    go_quiet (fail)
    go_wp2
    go_ret
    exact ⟨ret_bool HF.out.symm,m+nq,by rw [HW.out,drewN_more]⟩
  ·have HF:Hid (decide (x=y)=true):=by
    have hkl:k=len:=by omega
    have h9:=HT.out
    rw [hkl] at h9
    exact decide_eq_true (take_eq_all HX.out HY.out h9)
   go_wp2
   go_ret
   exact ⟨ret_bool HF.out.symm,m,HW.out⟩
set_option maxHeartbeats 400000 in
theorem samed_len (a1 a2:Option Addr)(n1 n2 c1 c2:Nat)(w:World)(h:n1≠n2):Calls Tryz.prog 15 #[.slice a1 n1 c1,.slice a2 n2 c2] w fun e w'=>e=.returned (.bool false)∧∃ m,w'=w.drewN m:=by
 have hi:((n1:Int) != (n2:Int))=true:=by simp; omega
 have hn:(n1 != n2)=true:=by simpa using h
 go_enter Tryz.func15,Tryz.ntmps15
 go_wp2
 go_ret
 exact ⟨rfl,0,rfl⟩
theorem samed_any (a1 a2:Option Addr)(c1 c2:Nat)(x y:List Nat)(w:World)(hl:x.length≤1000000)(h1:BRd w a1 x)(h2:BRd w a2 y) :
  Calls Tryz.prog 15 #[.slice a1 x.length c1,.slice a2 y.length c2] w fun e w'=>e=.returned (.bool (decide (x=y)))∧∃ m,w'=w.drewN m:=by
 by_cases hle:x.length=y.length
 ·by_cases h0:x.length=0
  ·have hx:x=[]:=List.length_eq_zero_iff.1 h0
   have hy:y=[]:=List.length_eq_zero_iff.1 (by omega)
   subst hx hy
   exact sameq_empty a1 a2 c1 c2 w
  ·obtain ⟨b1,o1,rfl,hc1⟩:=h1.1.2 (by omega)
   obtain ⟨b2,o2,rfl,hc2⟩:=h2.1.2 (by omega)
   rw [← hle]
   exact samed_some b1 o1 b2 o2 _ c1 c2 x y w rfl hle.symm hl hc1 (fun i hi=>hc2 i (by omega))
 ·rw [decide_eq_false (fun e=>hle (by rw [e]))]
  exact samed_len a1 a2 _ _ c1 c2 w hle
set_option maxHeartbeats 1600000 in
theorem samenote_any (p q r s:Int)(a1 a2:Option Addr)(c1 c2:Nat)(x y:List Nat)(w:World)(hl:x.length≤1000000)(h1:BRd w a1 x)(h2:BRd w a2 y) :
  Calls Tryz.prog 12 #[.agg #[.int .i64 p,.int .i64 q,.slice a1 x.length c1],.agg #[.int .i64 r,.int .i64 s,.slice a2 y.length c2]] w fun e w'=>e=.returned (.bool (decide (p=r∧q=s∧x=y)))∧Below w.heap.size w w':=by
 have hb:∀ o1 o2,Below w.heap.size w ((w.alloc o1).alloc o2):=fun o1 o2=>((Below.refl _ _).alloc (Nat.le_refl _) _).alloc (by simp) _
 have K:Hid (∀ o1 o2,Calls Tryz.prog 15 #[.slice a1 x.length c1,.slice a2 y.length c2] ((w.alloc o1).alloc o2) fun e w'=>e=.returned (.bool (decide (x=y)))∧∃ m,w'=((w.alloc o1).alloc o2).drewN m):=fun o1 o2=>samed_any a1 a2 c1 c2 x y _ hl (h1.below (hb o1 o2)) (h2.below (hb o1 o2))
 by_cases e1:p=r
 ·subst e1
  by_cases e2:q=s
  ·subst e2
   have HD:Hid (decide (p=p∧q=q∧x=y)=decide (x=y)):=by show decide _=_; simp
   rw [HD.out]
   clear HD h1 h2
   generalize decide (x=y)=d at *
   generalize x.length=n1 at *
   generalize y.length=n2 at *
   go_enter Tryz.func12,Tryz.ntmps12
   go_wp2_with fail
   refine (K.out _ _).mono ?_
   rintro e w1 ⟨rfl,m,rfl⟩
   go_wp2
   go_ret
   exact ⟨rfl,below_drewN (hb _ _) m⟩
  ·have HD:Hid (decide (p=p∧q=s∧x=y)=false):=decide_eq_false (fun h=>e2 h.2.1)
   rw [HD.out]
   have f2:(q == s)=false:=by simpa using e2
   clear HD h1 h2 K
   generalize x.length=n1 at *
   generalize y.length=n2 at *
   go_enter Tryz.func12,Tryz.ntmps12
   go_wp2
   go_ret
   exact ⟨rfl,hb _ _⟩
 ·have HD:Hid (decide (p=r∧q=s∧x=y)=false):=decide_eq_false (fun h=>e1 h.1)
  rw [HD.out]
  have f1:(p == r)=false:=by simpa using e1
  clear HD h1 h2 K
  generalize x.length=n1 at *
  generalize y.length=n2 at *
  go_enter Tryz.func12,Tryz.ntmps12
  go_wp2
  go_ret
  exact ⟨rfl,hb _ _⟩
theorem own_under {w:World}{B e size n X:Nat}{v:Value}{xs:List Value} (h:w.ownsRow B e size v n xs) (hX:X < B) (j:Nat) (u:Value):(w.setCell ⟨X,j,none⟩ u).ownsRow B e size v n xs:=by
 refine ⟨h.1,?_⟩
 rcases h.2 with hh | ⟨g,cap,cur,ev,hg,hc,rest⟩
 ·exact .inl hh
 ·refine .inr ⟨g,cap,cur,ev,hg,?_,rest⟩
  rw [heap_setCell w X j _ g (by omega)]
  exact hc
theorem own_low {w:World}{B B' e size n:Nat}{v:Value}{xs:List Value} (h:w.ownsRow B e size v n xs) (hB:B'≤B):w.ownsRow B' e size v n xs:=by
 refine ⟨h.1,?_⟩
 rcases h.2 with hh | ⟨g,cap,cur,ev,hg,rest⟩
 ·exact .inl hh
 ·exact .inr ⟨g,cap,cur,ev,Nat.le_trans hB hg,rest⟩
section
attribute [local go_sem ↓] kept_append
set_option maxHeartbeats 1600000 in
theorem note_any (c s:Int)(a:Option Addr)(cap:Nat)(d:List Nat)(w:World)(hl:d.length≤100000)(h:BRd w a d) :
  Calls Tryz.prog 27 #[.int .i64 c,.int .i64 s,.slice a d.length cap] w fun e w'=>∃ a9 c9,e=.returned (.agg #[.int .i64 c,.int .i64 s,.slice a9 d.length c9])∧w'.ownsRow w.heap.size 5 1 (.slice a9 d.length c9) d.length (bcells d)∧Below w.heap.size w w':=by
 obtain ⟨w1,hw1⟩:∃ w1,w1=w.alloc (.cells #[.int .i64 0,.int .i64 0,.slice none 0 0] 38):=⟨_,rfl⟩
 have hb1:Below w.heap.size w w1:=by rw [hw1]; exact (Below.refl _ _).alloc (Nat.le_refl _) _
 have hs1:w1.heap.size=w.heap.size+1:=by rw [hw1]; simp
 have hb2:Below w1.heap.size w1 (w1.alloc (.cells #[] 5)):=(Below.refl _ _).alloc (Nat.le_refl _) _
 have hm:(w1.alloc (.cells #[] 5)).ownsRow w1.heap.size 5 1 (.slice (some ⟨w1.heap.size,0,none⟩) 0 0) 0 (bcells []) :=
  ⟨rfl,.inr ⟨w1.heap.size,0,_,rfl,Nat.le_refl _,by unfold World.alloc; exact Array.getElem?_push_size,Nat.le_refl _,by unfold maxLen; omega,rfl,rfl⟩⟩
 obtain ⟨v',w3,hr,ho,hb3⟩:=app_brd (n:=0) (ys:=[]) d a cap rfl hm hb2.size (by omega) ((h.below hb1).below hb2)
 obtain ⟨a9,c9,rfl⟩:=own_shape ho
 have hlen:(([]:List Nat)++d).length=d.length:=rfl
 rw [hlen] at hr
 have HO:Hid (w3.ownsRow w1.heap.size 5 1 (.slice a9 d.length c9) d.length (bcells d)):=ho
 have hb13:Below w1.heap.size w1 w3:=hb2.trans hb3
 have r0:w3.cell? ⟨w.heap.size,0,none⟩=some (.int .i64 0):=by rw [hb13.cell (p:=⟨w.heap.size,0,none⟩) (by show w.heap.size < _; omega),hw1]; simp [go_sem]
 have r1:w3.cell? ⟨w.heap.size,1,none⟩=some (.int .i64 0):=by rw [hb13.cell (p:=⟨w.heap.size,1,none⟩) (by show w.heap.size < _; omega),hw1]; simp [go_sem]
 have r2:w3.cell? ⟨w.heap.size,2,none⟩=some (.slice none 0 0):=by rw [hb13.cell (p:=⟨w.heap.size,2,none⟩) (by show w.heap.size < _; omega),hw1]; simp [go_sem]
 have f0:w3.frozen? ⟨w.heap.size,0,none⟩=false:=by rw [hb13.frozen (p:=⟨w.heap.size,0,none⟩) (by show w.heap.size < _; omega),hw1]; simp [go_sem]
 have f1:w3.frozen? ⟨w.heap.size,1,none⟩=false:=by rw [hb13.frozen (p:=⟨w.heap.size,1,none⟩) (by show w.heap.size < _; omega),hw1]; simp [go_sem]
 have f2:w3.frozen? ⟨w.heap.size,2,none⟩=false:=by rw [hb13.frozen (p:=⟨w.heap.size,2,none⟩) (by show w.heap.size < _; omega),hw1]; simp [go_sem]
 have hz3:w.heap.size < w3.heap.size:=by have:=hb13.size; omega
 have HB:Hid (Below w.heap.size w w3):=hb1.trans (hb13.mono hb1.size)
 have HS1:=hide hs1
 rw [hw1] at hr
 simp only [World.size_alloc] at hr
 have HR:=hide hr
 clear hr ho hb3 hm hb2 hb13 h hlen hb1 hs1 hw1
 generalize d.length=n at *
 go_enter Tryz.func27,Tryz.ntmps27
 go_wp2_with (refine kept_append_intro _ _ _ _ (.slice a9 n c9) (w':=w3) (by rfl) (by rfl) (by exact HR.out) ?_)
 refine bodyPost_ret (v:=.agg #[.int .i64 c,.int .i64 s,.slice a9 n c9]) (by simp [results,Tryz.results27,go_sem,r0,r1,r2]) rfl ⟨a9,c9,rfl,?_,?_⟩
 ·exact own_low (own_under (own_under (own_under HO.out (by have:=HS1.out; omega) _ _) (by have:=HS1.out; omega) _ _) (by have:=HS1.out; omega) _ _) (by have:=HS1.out; omega)
 ·exact ((HB.out.setCell (Nat.le_refl _) _).setCell (Nat.le_refl _) _).setCell (Nat.le_refl _) _
end
def saidL:List Int:=[0,0,0,0,64,1,1,1,64,0,65535,1,64,4,4,4,128,4,4,4,64,4,4,4,64,0,0,1,192,8,8,8,192,4,65535,4]
def Said (w:World):Prop:=∀ k z,saidL[k]?=some z→w.cell? ⟨1,k,none⟩=some (.int .i64 z)
theorem Said.pos {w:World}(h:Said w):1 < w.heap.size:=by
 have:=World.block_lt_of_cell? w _ (h 0 0 rfl)
 simpa using this
theorem Said.below {w w':World}(h:Said w)(hb:Below w.heap.size w w'):Said w':=fun k z hk=>by
 rw [hb.cell (p:=⟨1,k,none⟩) (by exact h.pos)]
 exact h k z hk
theorem Said.keeps {F:Nat→Prop}{w w':World} (h:Said w) (hk:Keeps F w w') (hF:¬ F 1):Said w':=fun k z hz=>by
 rw [hk.cell ⟨1,k,none⟩ (by exact h.pos) hF]
 exact h k z hz
def leastN (k:Nat):Nat:=if k=1 then 1 else if k=3∨k=4∨k=5∨k=8 then 4 else if k=7 then 8 else 0
def mostN (k:Nat):Nat:=if k=1 then 1 else if k=3∨k=4∨k=5 then 4 else if k=7 then 8 else if k=6 then 0 else 65535
def eachN (k:Nat):Nat:=if k=3∨k=4∨k=5∨k=8 then 4 else if k=7 then 8 else 1
def flagN (k:Nat):Nat:=if k=4 then 128 else if k=7∨k=8 then 192 else 64
theorem Said.at {w:World}(h:Said w)(k:Nat)(h1:1≤k)(h8:k≤8) :
  w.cell? ⟨1,k * 4,none⟩=some (.int .i64 (flagN k:Int))∧w.cell? ⟨1,k * 4+1,none⟩=some (.int .i64 (leastN k:Int))∧w.cell? ⟨1,k * 4+2,none⟩=some (.int .i64 (mostN k:Int))∧w.cell? ⟨1,k * 4+3,none⟩=some (.int .i64 (eachN k:Int)):=by
 have hk:k=1∨k=2∨k=3∨k=4∨k=5∨k=6∨k=7∨k=8:=by omega
 rcases hk with rfl | rfl | rfl | rfl | rfl | rfl | rfl | rfl <;> exact ⟨h _ _ rfl,h _ _ rfl,h _ _ rfl,h _ _ rfl⟩
def fitsB (k n:Nat):Bool:=decide (leastN k≤n∧n≤mostN k∧n % eachN k=0)
set_option maxHeartbeats 400000 in
theorem shiftA_any (i:Nat)(w:World)(hi:i < 4):Calls Tryz.prog 126 #[.int .i64 (i:Int)] w fun e w'=>e=.returned (.int .i64 ((8 * (3 - i):Nat):Int))∧w'=w:=by
 go_enter Tryz.func126,Tryz.ntmps126
 go_wp2
 go_ret
 exact ⟨ret_int (by omega),rfl⟩
set_option maxHeartbeats 400000 in
theorem isOrigin_any (z:Int)(w:World):Calls Tryz.prog 100 #[.int .i64 z] w fun e w'=>e=.returned (.bool (decide (0≤z∧z≤2)))∧w'=w:=by
 by_cases h:0≤z
 ·have HD:Hid (decide (0≤z∧z≤2)=decide (z≤2)):=by show decide _=_; rw [Bool.eq_iff_iff]; simp [h]
  go_enter Tryz.func100,Tryz.ntmps100
  go_wp2
  go_ret
  exact ⟨ret_bool HD.out.symm,rfl⟩
 ·have HD:Hid (decide (0≤z∧z≤2)=false):=by show decide _=_; exact decide_eq_false (fun h9=>h h9.1)
  have h2:decide (0≤z)=false:=decide_eq_false h
  clear h
  go_enter Tryz.func100,Tryz.ntmps100
  go_wp2
  go_ret
  exact ⟨ret_bool HD.out.symm,rfl⟩
set_option maxHeartbeats 400000 in
theorem isNext_any (n:Nat)(w:World)(hn:n < 4294967296):Calls Tryz.prog 103 #[.int .u32 (n:Int)] w fun e w'=>e=.returned (.bool (hopB n))∧w'=w:=by
 have e1:(n:Int) / 16777216=((n / 16777216:Nat):Int):=by omega
 unfold hopB
 by_cases h0:n=0
 ·subst h0
  go_enter Tryz.func103,Tryz.ntmps103
  go_wp2
  go_ret
  exact ⟨rfl,rfl⟩
 ·have z0:((n:Int) != 0)=true:=by simp; omega
  by_cases h1:n / 16777216=127
  ·have HD:Hid (decide (n≠0∧n / 16777216≠127∧n / 16777216 < 224)=false):=by show decide _=_; exact decide_eq_false (fun h9=>h9.2.1 h1)
   have z1:((n:Int) / 16777216 != 127)=false:=by rw [e1,h1]; rfl
   clear h0 e1
   go_enter Tryz.func103,Tryz.ntmps103
   go_wp2
   go_ret
   exact ⟨ret_bool HD.out.symm,rfl⟩
  ·have HD:Hid (decide (n≠0∧n / 16777216≠127∧n / 16777216 < 224)=decide ((n:Int) / 16777216 < 224)):=by
    show decide _=_
    rw [Bool.eq_iff_iff]
    simp only [decide_eq_true_eq]
    omega
   have z1:((n:Int) / 16777216 != 127)=true:=by simp; omega
   clear h0 e1 h1
   go_enter Tryz.func103,Tryz.ntmps103
   go_wp2
   go_ret
   exact ⟨ret_bool HD.out.symm,rfl⟩
set_option maxHeartbeats 800000 in
theorem fits_any (k n:Nat)(w:World)(hS:Said w)(h1:1≤k)(h8:k≤8)(hn:n≤1000000):Calls Tryz.prog 99 #[.int .i64 (k:Int),.int .i64 (n:Int)] w fun e w'=>e=.returned (.bool (fitsB k n))∧w'=w:=by
 obtain ⟨c0,c1,c2,c3⟩:=hS.at k h1 h8
 have he:eachN k=1∨eachN k=4∨eachN k=8:=by unfold eachN; split <;> (try split) <;> omega
 have hm:mostN k≤65535:=by unfold mostN; repeat (first | omega | split)
 have hl:leastN k≤8:=by unfold leastN; repeat (first | omega | split)
 unfold fitsB
 generalize leastN k=le at *
 generalize mostN k=mo at *
 generalize eachN k=ea at *
 clear hS c0
 have k0:(0:Int)≤(k:Int):=Int.natCast_nonneg _
 have k9:(k:Int) < 9:=by omega
 have jz:((ea:Int) == 0)=false:=by simp; omega
 by_cases ha:le≤n
 ·by_cases hb:n≤mo
  ·have HD:Hid (decide (le≤n∧n≤mo∧n % ea=0)=(((n:Int) % (ea:Int)) == 0)):=by
    show decide _=_
    rw [Bool.eq_iff_iff]
    simp only [decide_eq_true_eq,beq_iff_eq]
    rcases he with rfl | rfl | rfl <;> omega
   go_enter Tryz.func99,Tryz.ntmps99
   go_wp2
   go_ret
   exact ⟨ret_bool HD.out.symm,rfl⟩
  ·have HD:Hid (decide (le≤n∧n≤mo∧n % ea=0)=false):=by show decide _=_; exact decide_eq_false (fun h9=>hb h9.2.1)
   go_enter Tryz.func99,Tryz.ntmps99
   go_wp2
   go_ret
   exact ⟨ret_bool HD.out.symm,rfl⟩
 ·have HD:Hid (decide (le≤n∧n≤mo∧n % ea=0)=false):=by show decide _=_; exact decide_eq_false (fun h9=>ha h9.1)
  go_enter Tryz.func99,Tryz.ntmps99
  go_wp2
  go_ret
  exact ⟨ret_bool HD.out.symm,rfl⟩
set_option maxHeartbeats 800000 in
/-- An attribute as it is told: its box stays behind. -/
theorem told_any (k:Nat)(a:Option Addr)(n c:Nat)(w:World)(hS:Said w)(h1:1≤k)(h8:k≤8):Calls Tryz.prog 104 #[.int .i64 (k:Int),.slice a n c] w fun e w'=>e=.returned (.agg #[.int .i64 (flagN k:Int),.int .i64 (k:Int),.slice a n c])∧Below w.heap.size w w':=by
 obtain ⟨c0,_,_,_⟩:=hS.at k h1 h8
 have hp:=hS.pos
 generalize flagN k=fl at *
 clear hS
 have k0:(0:Int)≤(k:Int):=Int.natCast_nonneg _
 have k9:(k:Int) < 9:=by omega
 go_enter Tryz.func104,Tryz.ntmps104
 go_wp2
 exact bodyPost_ret (v:=.agg #[.int .i64 (fl:Int),.int .i64 (k:Int),.slice a n c]) (by simp [results,Tryz.results104,go_sem]) rfl ⟨rfl,by repeat (first | exact (Below.refl _ _).alloc (Nat.le_refl _) _ | refine Below.setCell ?_ (Nat.le_refl _) _)⟩
theorem cmpi_any (x y:Int)(w:World):Calls Tryz.prog 107 #[.int .i64 x,.int .i64 y] w fun e w'=>e=.returned (.int .i64 (if x < y then -1 else if y < x then 1 else 0))∧w'=w:=by
 by_cases h:x < y
 ·rw [if_pos h]
  go_enter Tryz.func107,Tryz.ntmps107
  go_wp2
  all_goals go_ret
  all_goals exact ⟨rfl,rfl⟩
 ·rw [if_neg h]
  have h2:decide (x < y)=false:=decide_eq_false h
  clear h
  by_cases h3:y < x
  ·rw [if_pos h3]
   go_enter Tryz.func107,Tryz.ntmps107
   go_wp2
   all_goals go_ret
   all_goals exact ⟨rfl,rfl⟩
  ·rw [if_neg h3]
   have h4:decide (y < x)=false:=decide_eq_false h3
   clear h3
   go_enter Tryz.func107,Tryz.ntmps107
   go_wp2
   all_goals go_ret
   all_goals exact ⟨rfl,rfl⟩
abbrev Res:Type:=(Nat×Nat×List Nat) ⊕ At
def thenA (r:Res)(f:At→Res):Res :=
 match r with
 | .inl n=>.inl n
 | .inr a=>f a
theorem thenA_no (n:Nat×Nat×List Nat)(f:At→Res):thenA (.inl n) f=.inl n:=rfl
theorem thenA_go (a:At)(f:At→Res):thenA (.inr a) f=f a:=rfl
theorem thenA_congr (r:Res)(f g:At→Res)(h:∀ a,f a=g a):thenA r f=thenA r g:=by
 cases r with
 | inl n=>rfl
 | inr a=>exact h a
def wantF (ty:Nat):Nat:=if ty=4 then 128 else if ty=7∨ty=8 then 192 else 64
def numL (d:List Nat):Nat:=num (fun q=>d.getD q 0)
def numsL (d:List Nat):List Nat:=(List.range (d.length / 4)).map fun k=>num (fun q=>d.getD (4 * k+q) 0)
def insR (r:Int×Int×List Nat):List (Int×Int×List Nat)→List (Int×Int×List Nat)
 | []=>[r]
 | x :: l=>if r.2.1 < x.2.1 then r :: x :: l else x :: insR r l
def sizeBad (ty:Nat)(d:List Nat):Bool:=decide (ty=1∧d.length≠1∨(ty=3∨ty=4∨ty=5)∧d.length≠4∨ty=6∧d.length≠0∨ty=7∧d.length≠8∨ty=8∧(d.length=0∨d.length % 4≠0))
def knownA (a:At)(fl ty:Nat)(d all:List Nat):Res :=
 if fl / 64 * 64≠wantF ty∨fl / 32 % 2=1∧ty < 7 then .inl (3,4,all)
 else if sizeBad ty d then .inl (3,5,all)
 else if ty=1 then if 2 < d.getD 0 0 then .inl (3,6,all) else .inr { a with origin:=((d.getD 0 0:Nat):Int) }
 else if ty=2 then match segsRun (fun q=>d.getD q 0) d.length 0 [] with
  | none=>.inl (3,11,[])
  | some p=>.inr { a with path:=p }
 else if ty=3 then if hopB (numL d) then .inr { a with next:=numL d } else .inl (3,8,all)
 else if ty=4 then .inr { a with med:=((numL d:Nat):Int) }
 else if ty=5 then .inr { a with pref:=((numL d:Nat):Int) }
 else if ty=8 then if 128 < d.length then .inl (3,9,all) else .inr { a with comms:=a.comms++numsL d }
 else .inr { a with raws:=insR (((wantF ty:Nat):Int),((ty:Nat):Int),d) a.raws }
def applyA (a:At)(fl ty:Nat)(d all:List Nat):Res :=
 if 1≤ty∧ty≤8 then knownA a fl ty d all
 else if fl < 128 then .inl (3,2,all)
 else if fl / 64 % 2=0 then .inr a
 else if 255 < d.length then .inl (3,9,all)
 else if 8 < ty then .inr { a with raws:=insR (224,((ty:Nat):Int),d) a.raws }
 else .inr a
def headL (b0:Nat):Nat:=if b0 / 16 % 2=1 then 4 else 3
def sizeL (bs:List Nat):Nat:=if bs.getD 0 0 / 16 % 2=1 then 256 * bs.getD 2 0+bs.getD 3 0 else bs.getD 2 0
def fitsL (bs seen:List Nat):Bool:=decide (headL (bs.getD 0 0)≤bs.length∧headL (bs.getD 0 0)+sizeL bs≤bs.length∧bs.getD 1 0 ∉ seen)
def finA (a:At)(seen:List Nat):Res:=if 1 ∉ seen then .inl (3,3,[1]) else if 2 ∉ seen then .inl (3,3,[2]) else if 3 ∉ seen then .inl (3,3,[3]) else .inr a
def fuelA:Nat→List Nat→At→List Nat→Res
 | 0,_,a,seen=>finA a seen
 | k+1,bs,a,seen =>
  if bs=[] then finA a seen
  else if fitsL bs seen then
   thenA (applyA a (bs.getD 0 0) (bs.getD 1 0) ((bs.drop (headL (bs.getD 0 0))).take (sizeL bs)) (bs.take (headL (bs.getD 0 0)+sizeL bs))) fun a'=>fuelA k (bs.drop (headL (bs.getD 0 0)+sizeL bs)) a' (bs.getD 1 0 :: seen)
  else .inl (3,1,[])
theorem headL_pos (b0:Nat):3≤headL b0:=by unfold headL; split <;> omega
theorem fuelA_end (a:At)(seen:List Nat):∀ k,fuelA k [] a seen=finA a seen
 | 0=>rfl
 | k+1=>by rw [fuelA,if_pos rfl]
theorem fuelA_more:∀ (k:Nat)(bs:List Nat)(a:At)(seen:List Nat),bs.length≤k→∀ d,fuelA (k+d) bs a seen=fuelA k bs a seen
 | 0,bs,a,seen,h,d=>by
  have h0:bs=[]:=List.length_eq_zero_iff.1 (by omega)
  subst h0
  rw [fuelA_end,fuelA_end]
 | k+1,bs,a,seen,h,d=>by
  rw [show k+1+d=(k+d)+1 from by omega,fuelA,fuelA]
  by_cases h0:bs=[]
  ·rw [if_pos h0,if_pos h0]
  ·rw [if_neg h0,if_neg h0]
   by_cases hf:fitsL bs seen=true
   ·rw [if_pos hf,if_pos hf]
    refine thenA_congr _ _ _ (fun a'=>fuelA_more k _ _ _ ?_ d)
    have:=headL_pos (bs.getD 0 0)
    rw [List.length_drop]
    have:0 < bs.length:=List.length_pos_iff.2 h0
    omega
   ·rw [if_neg hf,if_neg hf]
def runA (bs:List Nat)(a:At)(seen:List Nat):Res:=fuelA bs.length bs a seen
theorem runA_end (a:At)(seen:List Nat):runA [] a seen=finA a seen:=rfl
theorem runA_no {bs:List Nat}{a:At}{seen:List Nat} (h0:bs≠[]) (h:fitsL bs seen=false):runA bs a seen=.inl (3,1,[]):=by
 unfold runA
 have hp:0 < bs.length:=List.length_pos_iff.2 h0
 obtain ⟨n,hn⟩:∃ n,bs.length=n+1:=⟨bs.length - 1,by omega⟩
 rw [hn,fuelA,if_neg h0,if_neg (by simp [h])]
theorem runA_go {bs:List Nat}{a:At}{seen:List Nat} (h0:bs≠[]) (h:fitsL bs seen=true):runA bs a seen =
  thenA (applyA a (bs.getD 0 0) (bs.getD 1 0) ((bs.drop (headL (bs.getD 0 0))).take (sizeL bs)) (bs.take (headL (bs.getD 0 0)+sizeL bs))) fun a'=>runA (bs.drop (headL (bs.getD 0 0)+sizeL bs)) a' (bs.getD 1 0 :: seen):=by
 have hp:0 < bs.length:=List.length_pos_iff.2 h0
 have hh:=headL_pos (bs.getD 0 0)
 unfold runA
 obtain ⟨n,hn⟩:∃ n,bs.length=n+1:=⟨bs.length - 1,by omega⟩
 rw [hn,fuelA,if_neg h0,if_pos h]
 refine thenA_congr _ _ _ (fun a'=>?_)
 have hl:(bs.drop (headL (bs.getD 0 0)+sizeL bs)).length≤n:=by rw [List.length_drop]; omega
 have:=fuelA_more _ (bs.drop (headL (bs.getD 0 0)+sizeL bs)) a' (bs.getD 1 0 :: seen) (Nat.le_refl _) (n - (bs.drop (headL (bs.getD 0 0)+sizeL bs)).length)
 rw [show (bs.drop (headL (bs.getD 0 0)+sizeL bs)).length+(n - (bs.drop (headL (bs.getD 0 0)+sizeL bs)).length)=n from by omega] at this
 exact this
def readA (bs:List Nat):Res:=runA bs ⟨0,[],0,-1,-1,[],[]⟩ []
theorem perm_lift {α β:Type}(f:α→β){l' x:List β}(h:l'.Perm x):∀ l:List α,x=l.map f→∃ m:List α,m.Perm l∧m.map f=l':=by
 induction h with
 | nil=>intro l e; exact ⟨l,List.Perm.refl _,e.symm⟩
 | cons a _ ih =>
  intro l e
  cases l with
  | nil=>simp at e
  | cons b l =>
   simp only [List.map_cons,List.cons.injEq] at e
   obtain ⟨m,hm,he⟩:=ih l e.2
   exact ⟨b :: m,hm.cons b,by rw [List.map_cons,he,e.1]⟩
 | swap a b t =>
  intro l e
  match l,e with
  | c :: d :: l,e =>
   simp only [List.map_cons,List.cons.injEq] at e
   exact ⟨d :: c :: l,List.Perm.swap _ _ _,by rw [List.map_cons,List.map_cons,e.1,e.2.1,e.2.2]⟩
 | trans _ _ ih1 ih2 =>
  intro l e
  obtain ⟨m,hm,he⟩:=ih2 l e
  obtain ⟨m',hm',he'⟩:=ih1 m he.symm
  exact ⟨m',hm'.trans hm,he'⟩
theorem up_unique {α:Type}(key:α→Int):∀ (l m:List α),(l.Pairwise fun x y=>key x < key y)→(m.Pairwise fun x y=>key x < key y)→l.Perm m→l=m
 | [],m,_,_,h=>(List.nil_perm.1 h).symm
 | x :: l,m,h1,h2,h=>by
  cases m with
  | nil=>exact absurd h.symm (List.not_perm_nil_cons _ _ )
  | cons y m =>
   rw [List.pairwise_cons] at h1 h2
   have hxy:x=y:=by
    rcases List.mem_cons.1 (h.mem_iff.1 (List.mem_cons_self (a:=x) (l:=l))) with e | e
    ·exact e
    ·rcases List.mem_cons.1 (h.mem_iff.2 (List.mem_cons_self (a:=y) (l:=m))) with e2 | e2
     ·exact e2.symm
     ·have:=h1.1 y e2
      have:=h2.1 x e
      omega
   subst hxy
   rw [up_unique key l m h1.2 h2.2 ((List.perm_cons x).1 h)]
theorem sort_lift {α R:Type}(key:α→Int)(kr:R→Int)(d':List α)(Z:List (α×R))(hp:d'.Perm (Z.map fun z=>z.1))(hs:d'.Pairwise fun x y=>key x≤key y)(hk:∀ z∈Z,key z.1=kr z.2)(S:List R)(hS:S.Perm (Z.map fun z=>z.2))(hup:S.Pairwise fun x y=>kr x < kr y) :
  ∃ Z':List (α×R),Z'.Perm Z∧Z'.map (fun z=>z.1)=d'∧Z'.map (fun z=>z.2)=S:=by
 obtain ⟨Z',h1,h2⟩:=perm_lift _ hp Z rfl
 refine ⟨Z',h1,h2,?_⟩
 have hp2:(Z'.map fun z=>z.2).Perm S:=(h1.map _).trans hS.symm
 refine up_unique kr _ _ ?_ hup hp2
 have hne:(Z'.map fun z=>z.2).Pairwise fun x y=>kr x≠kr y:=(hp2.pairwise_iff (R:=fun x y=>kr x≠kr y) (fun h e=>h e.symm)).2 (hup.imp fun h e=>by omega)
 have hle:(Z'.map fun z=>z.2).Pairwise fun x y=>kr x≤kr y:=by
  rw [List.pairwise_map]
  rw [← h2,List.pairwise_map] at hs
  refine hs.imp_of_mem (fun {a b} ha hb h=>?_)
  rw [hk a (h1.mem_iff.1 ha),hk b (h1.mem_iff.1 hb)] at h
  exact h
 exact (hle.and hne).imp fun h=>by omega
theorem insR_perm (r:Int×Int×List Nat):∀ l,(insR r l).Perm (l++[r])
 | []=>List.Perm.refl _
 | x :: l=>by
  rw [insR]
  split
  ·exact (List.perm_append_comm (l₁:=[r]) (l₂:=x :: l))
  ·exact (insR_perm r l).cons x
theorem insR_up (r:Int×Int×List Nat):∀ l,(l.Pairwise fun x y=>x.2.1 < y.2.1)→(∀ x∈l,x.2.1≠r.2.1)→(insR r l).Pairwise fun x y=>x.2.1 < y.2.1
 | [],_,_=>by simp [insR]
 | x :: l,h,hn=>by
  have hx:=hn x (by simp)
  rw [insR]
  by_cases e:r.2.1 < x.2.1
  ·rw [if_pos e]
   refine List.pairwise_cons.2 ⟨fun y hy=>?_,h⟩
   rcases List.mem_cons.1 hy with rfl | hy
   ·exact e
   ·have:=(List.pairwise_cons.1 h).1 y hy; omega
  ·rw [if_neg e]
   refine List.pairwise_cons.2 ⟨fun y hy=>?_,insR_up r l (List.pairwise_cons.1 h).2 (fun y hy=>hn y (List.mem_cons_of_mem _ hy))⟩
   rcases List.mem_append.1 ((insR_perm r l).mem_iff.1 hy) with h1 | h1
   ·exact (List.pairwise_cons.1 h).1 y h1
   ·simp only [List.mem_cons,List.not_mem_nil,or_false] at h1
    subst h1
    omega
end Go.Proofs.YtogbjeaceboemaaGreatDoor
