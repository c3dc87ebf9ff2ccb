import Derived.Test.YtogbjeaceboemaaGreatDoorPA11
import Derived.Laws.EntriesVeiled
import Derived.Test.YtogbjeaceboemaaGreatDoorPA10
import Derived.Test.YtogbjeaceboemaaGreatDoorPA8
import Derived.Test.YtogbjeaceboemaaGreatDoorPA6
namespace Go.Proofs.YtogbjeaceboemaaGreatDoor
open Go.RowKit
set_option maxRecDepth 100000
structure Inv2 (X P Q:Nat) (c:Cp) (w:World):Prop where
 box:CBox w X c
 ptr:w.cell? ⟨P,0,none⟩=some (.pointer (some ⟨X,0,none⟩))
 fn:w.cell? ⟨Q,0,none⟩=some (.func (.func 89) #[] #[.pointer (some ⟨P,0,none⟩)])
 hp:P≠X
 hq:Q≠X
theorem Inv2.later {X P Q:Nat}{c:Cp}{w w':World} (h:Inv2 X P Q c w) (hb:Below w.heap.size w w'):Inv2 X P Q c w':=by
 have h1:=World.block_lt_of_cell? w _ h.ptr
 have h2:=World.block_lt_of_cell? w _ h.fn
 exact ⟨h.box.later hb,by rw [hb.cell (p:=⟨P,0,none⟩) h1]; exact h.ptr,by rw [hb.cell (p:=⟨Q,0,none⟩) h2]; exact h.fn,h.hp,h.hq⟩
theorem Inv2.keeps {X P Q:Nat}{c c':Cp}{w w':World} (h:Inv2 X P Q c w) (hk:Keeps (fun b=>b=X) w w') (hx:CBox w' X c'):Inv2 X P Q c' w':=by
 have h1:=World.block_lt_of_cell? w _ h.ptr
 have h2:=World.block_lt_of_cell? w _ h.fn
 exact ⟨hx,by rw [hk.cell ⟨P,0,none⟩ h1 h.hp]; exact h.ptr,by rw [hk.cell ⟨Q,0,none⟩ h2 h.hq]; exact h.fn,h.hp,h.hq⟩
theorem inner_any (X P Q:Nat)(a:Option Addr)(cap:Nat)(bs:List Nat)(c:Cp)(w:World)(hl:bs.length≤10000)(hcap:bs.length≤cap)(hr:BRd w a bs)(hF:∀ x,a=some x→0 < bs.length→x.block≠X)(hi:Inv2 X P Q c w) :
  Calls Tryz.prog 65 #[.slice a bs.length cap,.func (.func 89) #[] #[.pointer (some ⟨P,0,none⟩)]] w fun e w'=>TookI (Inv2 X P Q) (eachC readOne bs c) e w'∧Keeps (fun b=>b=X) w w' :=
 each_inv readOne 89 #[.pointer (some ⟨P,0,none⟩)] (Inv2 X P Q) (fun b=>b=X) a cap bs c w hl hcap hr hF hi Tryz.call89 (fun _ _ _ h hb=>h.later hb) (fun w1 c1 k a1 cap1 vs _ hi1 hr1 hx1 hv hc1 _ =>
  (take1_any X P c1 k a1 cap1 vs w1 hi1.ptr hi1.box hr1 hx1 (by omega) hc1).mono fun e w2 ⟨ht,hk⟩=>⟨by
   cases h:readOne k vs c1 with
   | none=>rw [h] at ht; exact ht
   | some c2=>rw [h] at ht; exact ⟨ht.1,hi1.keeps hk ht.2⟩,hk⟩)
theorem tooki_of {Inv:Cp→World→Prop}{r:Option Cp}{e:Ending}{w:World} (h:TookI Inv r e w):∃ z:Bool,e=.returned (.bool z)∧TookI Inv r (.returned (.bool z)) w:=by
 cases r with
 | none=>exact ⟨false,h,rfl⟩
 | some c=>exact ⟨true,h.1,rfl,h.2⟩
set_option maxHeartbeats 1600000 in
theorem dec1_any (X P Q:Nat)(a:Option Addr)(cap:Nat)(bs:List Nat)(c:Cp)(k:Nat)(w:World)(hl:bs.length≤10000)(hcap:bs.length≤cap)(hr:BRd w a bs)(hF:∀ x,a=some x→0 < bs.length→x.block≠X)(hi:Inv2 X P Q c w) :
  Calls Tryz.prog 66 #[.int .i64 (k:Int),.slice a bs.length cap,.pointer (some ⟨Q,0,none⟩)] w fun e w'=>TookI (Inv2 X P Q) (readPar k bs c) e w'∧Keeps (fun b=>b=X) w w':=by
 have hq:=hi.fn
 have hqs:=World.block_lt_of_cell? w _ hq
 simp only at hqs
 have HI:=hide (inner_any X P Q a cap bs c w hl hcap hr hF hi)
 by_cases h2:k=2
 ·subst h2
  have HE:Hid (readPar 2 bs c=eachC readOne bs c):=rfl
  generalize readPar 2 bs c=rp at *
  generalize eachC readOne bs c=ro at *
  clear hr hF hi hl hcap
  generalize bs.length=n at *
  go_enter Tryz.func66,Tryz.ntmps66
  go_wp2_with fail
  refine HI.out.mono ?_
  rintro e w1 ⟨ht,hk⟩
  obtain ⟨z,rfl,ht⟩:=tooki_of ht
  have HT:=hide ht
  have HK:=hide hk
  clear ht hk
  go_wp2
  go_ret
  exact ⟨by rw [HE.out]; exact HT.out,HK.out⟩
 ·have HE:Hid (readPar k bs c=none):=by show _=_; unfold readPar; rw [if_neg h2]
  generalize readPar k bs c=rp at *
  clear hr hF hi hl hcap HI
  generalize bs.length=n at *
  have h2i:((k:Int) == 2)=false:=by simp; omega
  clear h2
  go_enter Tryz.func66,Tryz.ntmps66
  go_wp2
  go_ret
  exact ⟨by rw [HE.out]; rfl,Keeps.refl _ _⟩
theorem outer_any (X P Q:Nat)(a:Option Addr)(cap:Nat)(bs:List Nat)(c:Cp)(w:World)(hl:bs.length≤10000)(hcap:bs.length≤cap)(hr:BRd w a bs)(hF:∀ x,a=some x→0 < bs.length→x.block≠X)(hi:Inv2 X P Q c w) :
  Calls Tryz.prog 65 #[.slice a bs.length cap,.func (.func 66) #[] #[.pointer (some ⟨Q,0,none⟩)]] w fun e w'=>TookI (Inv2 X P Q) (eachC readPar bs c) e w'∧Keeps (fun b=>b=X) w w' :=
 each_inv readPar 66 #[.pointer (some ⟨Q,0,none⟩)] (Inv2 X P Q) (fun b=>b=X) a cap bs c w hl hcap hr hF hi Tryz.call66 (fun _ _ _ h hb=>h.later hb) (fun w1 c1 k a1 cap1 vs _ hi1 hr1 hx1 hv hc1 _ =>
  dec1_any X P Q a1 cap1 vs c1 k w1 (by omega) hc1 hr1 hx1 hi1)
set_option maxHeartbeats 800000 in
theorem take_any (X:Nat)(w:World):Calls Tryz.prog 64 #[.pointer (some ⟨X,0,none⟩)] w fun e w'=>e=.returned (.func (.func 89) #[] #[.pointer (some ⟨w.heap.size,0,none⟩)])∧w'=w.alloc (.cells #[.pointer (some ⟨X,0,none⟩)] 93):=by
 go_enter Tryz.func64,Tryz.ntmps64
 go_wp2
 go_ret
 exact ⟨rfl,rfl⟩
def zeroC:Obj:=.cells #[.bool false,.int .i64 0,.bool false,.bool false,.int .i64 0,.bool false,.bool false,.bool false,.int .i64 0] 26
theorem zero_box (w:World):BoxC (w.alloc zeroC) w.heap.size cp0:=BoxC.new w cp0
def decW (w:World):World:=(((w.alloc zeroC).alloc zeroC).alloc (.cells #[.pointer (some ⟨w.heap.size+1,0,none⟩)] 93)).alloc (.cells #[.func (.func 89) #[] #[.pointer (some ⟨w.heap.size+1+1,0,none⟩)]] 117)
theorem decW_below (w:World):Below w.heap.size w (decW w):=by
 unfold decW
 exact ((((Below.refl w.heap.size w).alloc (Nat.le_refl _) _).alloc (by simp) _).alloc (by simp only [World.size_alloc]; omega) _).alloc (by simp only [World.size_alloc]; omega) _
theorem decW_inv (w:World):Inv2 (w.heap.size+1) (w.heap.size+1+1) (w.heap.size+1+1+1) cp0 (decW w):=by
 unfold decW
 refine ⟨⟨?_,fun j=>?_⟩,?_,?_,by omega,by omega⟩
 ·have h1:=zero_box (w.alloc zeroC)
  simp only [World.size_alloc] at h1
  refine h1.block ?_
  rw [heap_alloc_old _ _ (by simp only [World.size_alloc]; omega),heap_alloc_old _ _ (by simp only [World.size_alloc]; omega)]
 ·have e:∀ (W:World) (o:Obj) (b:Nat),b < W.heap.size→(W.alloc o).frozen? ⟨b,j,none⟩=W.frozen? ⟨b,j,none⟩:=fun W o b hb=>World.frozen?_of_block (heap_alloc_old W o hb)
  rw [e _ _ _ (by simp only [World.size_alloc]; omega),e _ _ _ (by simp only [World.size_alloc]; omega)]
  unfold zeroC
  have:=World.frozen?_alloc_mark (w.alloc zeroC) #[.bool false,.int .i64 0,.bool false,.bool false,.int .i64 0,.bool false,.bool false,.bool false,.int .i64 0] 26 0 0 j
  simp only [World.size_alloc] at this
  unfold zeroC at this
  rw [this]
  simp
 ·have:=World.cell?_alloc_mark ((w.alloc zeroC).alloc zeroC) #[.pointer (some ⟨w.heap.size+1,0,none⟩)] 93 (0,0) 0
  simp only [World.size_alloc] at this
  rw [World.cell?_alloc_lt _ _ _ (by simp only [World.size_alloc]; omega),this]
  rfl
 ·have:=World.cell?_alloc_mark (((w.alloc zeroC).alloc zeroC).alloc (.cells #[.pointer (some ⟨w.heap.size+1,0,none⟩)] 93)) #[.func (.func 89) #[] #[.pointer (some ⟨w.heap.size+1+1,0,none⟩)]] 117 (0,0) 0
  simp only [World.size_alloc] at this
  rw [this]
  rfl
theorem decW_res (w:World):BoxC (decW w) w.heap.size cp0∧∀ j,(decW w).frozen? ⟨w.heap.size,j,none⟩=false:=by
 have hb:(decW w).heap[w.heap.size]?=(w.alloc zeroC).heap[w.heap.size]?:=by
  unfold decW
  rw [heap_alloc_old _ _ (by simp only [World.size_alloc]; omega),heap_alloc_old _ _ (by simp only [World.size_alloc]; omega),heap_alloc_old _ _ (by simp only [World.size_alloc]; omega)]
 refine ⟨(zero_box w).block hb,fun j=>?_⟩
 rw [World.frozen?_of_block hb]
 have:=World.frozen?_alloc_mark w #[.bool false,.int .i64 0,.bool false,.bool false,.int .i64 0,.bool false,.bool false,.bool false,.int .i64 0] 26 0 0 j
 unfold zeroC
 rw [this]
 simp
def decV (r:Option Cp):Value:=.tuple #[capV (r.getD cp0),.bool r.isSome]
set_option maxHeartbeats 3200000 in
theorem decc_any (a:Option Addr)(cap:Nat)(bs:List Nat)(w:World)(hl:bs.length≤10000)(hcap:bs.length≤cap)(hr:BRd w a bs) :
  Calls Tryz.prog 43 #[.slice a bs.length cap] w fun e w'=>e=.returned (decV (readC bs))∧Below w.heap.size w w':=by
 have hrD:=hr.below (decW_below w)
 have HO:=hide (outer_any (w.heap.size+1) (w.heap.size+1+1) (w.heap.size+1+1+1) a cap bs cp0 (decW w) hl hcap hrD (fun x hx hp=>by
  have:=hr.1.lt x hx hp
  omega) (decW_inv w))
 have HR:=hide (decW_res w)
 have HBD:=hide (decW_below w)
 have HRC:Hid (readC bs=eachC readPar bs cp0):=rfl
 generalize readC bs=rc at *
 rw [← HRC.out] at HO
 clear HRC hr hrD hl hcap
 generalize bs.length=n at *
 go_enter Tryz.func43,Tryz.ntmps43
 go_wp2_with fail
 refine (take_any _ _).mono ?_
 rintro e w1 ⟨rfl,hw1⟩
 subst hw1
 go_wp2_with fail
 refine HO.out.mono ?_
 rintro e w5 ⟨ht,hk⟩
 have HB5:Hid (Below w.heap.size w w5):=HBD.out.trans (hk.below w.heap.size HBD.out.size (fun b hb=>by omega))
 have hb9:w5.heap[w.heap.size]?=(decW w).heap[w.heap.size]?:=hk.block _ (by unfold decW; simp only [World.size_alloc]; omega) (by omega)
 have hR:=HR.out.1.block hb9
 have hF:∀ j,w5.frozen? ⟨w.heap.size,j,none⟩=false:=fun j=>by rw [World.frozen?_of_block hb9]; exact HR.out.2 j
 have hRs:=hR.size
 obtain ⟨r0,r1,r2,r3,r4,r5,r6,r7,r8⟩:=hR
 have f0:=hF 0
 have f1:=hF 1
 have f2:=hF 2
 have f3:=hF 3
 have f4:=hF 4
 have f5:=hF 5
 have f6:=hF 6
 have f7:=hF 7
 have f8:=hF 8
 unfold cp0 at r0 r1 r2 r3 r4 r5 r6 r7 r8
 simp only at r0 r1 r2 r3 r4 r5 r6 r7 r8
 clear hk hb9 HR HBD HO hF
 cases rc with
 | none =>
  obtain rfl:e=_:=ht
  go_wp2_with fail
  refine bodyPost_ret (v:=.tuple #[.agg #[.bool false,.int .i64 0,.bool false,.bool false,.int .i64 0,.bool false,.bool false,.bool false,.int .i64 0],.bool false]) (by simp [results,Tryz.results43,go_sem,r0,r1,r2,r3,r4,r5,r6,r7,r8]) rfl ⟨rfl,?_⟩
  exact ((((((((HB5.out.setCell (Nat.le_refl _) _).setCell (Nat.le_refl _) _).setCell (Nat.le_refl _) _).setCell (Nat.le_refl _) _).setCell (Nat.le_refl _) _).setCell (Nat.le_refl _) _).setCell (Nat.le_refl _) _).setCell (Nat.le_refl _) _).setCell (Nat.le_refl _) _
 | some c =>
  obtain ⟨rfl,hi⟩:=ht
  obtain ⟨x0,x1,x2,x3,x4,x5,x6,x7,x8⟩:=hi.box.cells
  have hXs:=hi.box.size
  clear hi
  obtain ⟨four,as4,gr,rs,tm,fam,fwd,ll,lt⟩:=c
  simp only at x0 x1 x2 x3 x4 x5 x6 x7 x8
  go_wp2_with fail
  refine bodyPost_ret (v:=.tuple #[.agg #[.bool four,.int .i64 as4,.bool gr,.bool rs,.int .i64 tm,.bool fam,.bool fwd,.bool ll,.int .i64 lt],.bool true]) (by simp [results,Tryz.results43,go_sem,r0,r1,r2,r3,r4,r5,r6,r7,r8]) rfl ⟨rfl,?_⟩
  exact ((((((((HB5.out.setCell (Nat.le_refl _) _).setCell (Nat.le_refl _) _).setCell (Nat.le_refl _) _).setCell (Nat.le_refl _) _).setCell (Nat.le_refl _) _).setCell (Nat.le_refl _) _).setCell (Nat.le_refl _) _).setCell (Nat.le_refl _) _).setCell (Nat.le_refl _) _
def asB (s:Nat)(c:Cp):Bool:=!(decide (s=0) || (c.four && (!decide ((s:Int)=c.as4) && !decide (s=23456))))
def asV (s:Nat)(c:Cp):Int:=if asB s c then (if c.four then c.as4 else (s:Int)) else 0
set_option maxHeartbeats 1600000 in
theorem readas_any (s:Nat)(c:Cp)(w:World):Calls Tryz.prog 44 #[.int .i64 (s:Int),capV c] w fun e w'=>e=.returned (.tuple #[.int .i64 (asV s c),.bool (asB s c)])∧Below w.heap.size w w':=by
 have HB:Hid (∀ o,Below w.heap.size w (w.alloc o)):=fun o=>below_new w o
 unfold capV
 by_cases h0:s=0
 ·have e1:asB s c=false:=by simp [asB,h0]
  have e2:asV s c=0:=by simp [asV,e1]
  rw [e1,e2]
  have hi:((s:Int) == 0)=true:=by simp [h0]
  clear e1 e2 h0
  obtain ⟨four,as4,gr,rs,tm,fam,fwd,ll,lt⟩:=c
  go_enter Tryz.func44,Tryz.ntmps44
  go_wp2
  go_ret2
  exact ⟨rfl,HB.out _⟩
 ·have hi:((s:Int) == 0)=false:=by simp; omega
  by_cases hf:c.four=true
  ·by_cases h4:(s:Int)=c.as4
   ·have e1:asB s c=true:=by simp [asB,h0,h4]
    have e2:asV s c=c.as4:=by simp [asV,e1,hf]
    rw [e1,e2]
    have hj:((s:Int) != c.as4)=false:=by simp [h4]
    clear e1 e2 h0 h4
    obtain ⟨four,as4,gr,rs,tm,fam,fwd,ll,lt⟩:=c
    simp only at hf hj
    subst hf
    go_enter Tryz.func44,Tryz.ntmps44
    go_wp2
    go_ret2
    exact ⟨rfl,HB.out _⟩
   ·have hj:((s:Int) != c.as4)=true:=by simpa using h4
    by_cases h5:s=23456
    ·have e1:asB s c=true:=by simp [asB,h5]
     have e2:asV s c=c.as4:=by simp [asV,e1,hf]
     rw [e1,e2]
     have hk:((s:Int) != 23456)=false:=by simp [h5]
     have H5:=hide h5
     clear e1 e2 h0 h4 h5
     obtain ⟨four,as4,gr,rs,tm,fam,fwd,ll,lt⟩:=c
     simp only at hf hj
     subst hf
     go_enter Tryz.func44,Tryz.ntmps44
     go_wp2
     go_ret2
     exact ⟨rfl,HB.out _⟩
    ·have e1:asB s c=false:=by simp [asB,h0,hf,h4,h5]
     have e2:asV s c=0:=by simp [asV,e1]
     rw [e1,e2]
     have hk:((s:Int) != 23456)=true:=by simp; omega
     have H5:=hide h5
     clear e1 e2 h0 h4 h5
     obtain ⟨four,as4,gr,rs,tm,fam,fwd,ll,lt⟩:=c
     simp only at hf hj
     subst hf
     go_enter Tryz.func44,Tryz.ntmps44
     go_wp2
     go_ret2
     exact ⟨rfl,HB.out _⟩
  ·have hf':c.four=false:=by simpa using hf
   have e1:asB s c=true:=by simp [asB,h0,hf']
   have e2:asV s c=(s:Int):=by simp [asV,e1,hf']
   rw [e1,e2]
   clear e1 e2 h0 hf
   obtain ⟨four,as4,gr,rs,tm,fam,fwd,ll,lt⟩:=c
   simp only at hf'
   subst hf'
   go_enter Tryz.func44,Tryz.ntmps44
   go_wp2
   go_ret2
   exact ⟨rfl,HB.out _⟩
def openR (bs:List Nat):(Nat×Nat×List Nat) ⊕ (Int×Nat×Nat×Cp) :=
 if bs.getD 0 0≠4 then .inl (2,1,[0,4])
 else if bs.getD 9 0≠bs.length - 10 then .inl (2,0,[])
 else match readC (bs.drop 10) with
  | none=>.inl (2,0,[])
  | some c=>if asB (numB ((bs.drop 1).take 2)) c then .inr (asV (numB ((bs.drop 1).take 2)) c,numB ((bs.drop 3).take 2),numB ((bs.drop 5).take 4),c) else .inl (2,2,[])
def openC (a:Int)(h i:Nat)(c:Cp):Array Value:=#[.int .i64 a,.int .i64 (h:Int),.int .u32 (i:Int),.bool c.four,.int .i64 c.as4,.bool c.gr,.bool c.rs,.int .i64 c.tm,.bool c.fam,.bool c.fwd,.bool c.ll,.int .i64 c.lt]
def zO:Array Value:=openC 0 0 0 cp0
def OC (C:Array Value):Prop:=C.size=12∧C.all (·.oneCell')=true
theorem OC.made (a:Int)(h i:Nat)(c:Cp):OC (openC a h i c):=⟨rfl,by simp [openC,Value.oneCell']⟩
theorem OC.zero:OC zO:=OC.made _ _ _ _
theorem infoO:(Tryz.prog.info? 28).map (·.size)=some 12:=by kernel_rfl
section
variable {P:Program}{a:Act}{w w':World}{K:Act→World→Prop}{Q:Exit→Act→World→Prop}{dst:Option Tmp}{ty:TypeId}{pos:String}{after:Array Edge}{gd:Option (Nat×Bool)}
theorem keptO_store (x y:Operand):Oper.wp P { dst:=dst,op:=.store 28 x y,type:=ty,pos:=pos,after:=after,guard:=gd } a w K Q=Kept P { dst:=dst,op:=.store 28 x y,type:=ty,pos:=pos,after:=after,guard:=gd } a w K Q:=rfl
theorem keptO_alloc:Oper.wp P { dst:=dst,op:=.alloc 28,type:=ty,pos:=pos,after:=after,guard:=gd } a w K Q=Kept P { dst:=dst,op:=.alloc 28,type:=ty,pos:=pos,after:=after,guard:=gd } a w K Q:=rfl
theorem keptO_build (xs:Array (Nat×Operand)):Oper.wp P { dst:=dst,op:=.build 28 xs,type:=ty,pos:=pos,after:=after,guard:=gd } a w K Q=Kept P { dst:=dst,op:=.build 28 xs,type:=ty,pos:=pos,after:=after,guard:=gd } a w K Q:=rfl
theorem keptO_store_intro (x y:Operand)(p v:Value)(hx:a.eval x=p)(hy:a.eval y=v)(hr:(Instr.storeAt 28 p v).run P w=.ok () w')(h:K (a.put dst undef) w'):Kept P { dst:=dst,op:=.store 28 x y,type:=ty,pos:=pos,after:=after,guard:=gd } a w K Q:=by
 unfold Kept Oper.wp execOp
 simp only [hx,hy,Sem.run_bind,hr,Result.andThen_ok,Sem.run_pure]
 exact h
theorem keptO_alloc_intro (v:Value)(hr:(Instr.alloc 28 true (.tuple #[])).run P w=.ok v w')(h:K (a.put dst v) w'):Kept P { dst:=dst,op:=.alloc 28,type:=ty,pos:=pos,after:=after,guard:=gd } a w K Q:=by
 unfold Kept Oper.wp execOp
 simp only [Sem.run_bind,hr,Result.andThen_ok,Sem.run_pure]
 exact h
theorem keptO_build0_intro (v:Value)(hr:(Instr.build 28 #[]).run P w=.ok v w)(h:K (a.put dst v) w):Kept P { dst:=dst,op:=.build 28 #[],type:=ty,pos:=pos,after:=after,guard:=gd } a w K Q:=by
 unfold Kept Oper.wp execOp
 have e:((#[]:Array (Nat×Operand)).map fun (i,x)=>(i,a.eval x))=#[]:=by simp
 simp only [e,Sem.run_bind,hr,Result.andThen_ok,Sem.run_pure]
 exact h
end
theorem run_allocO (w:World):(Instr.alloc 28 true (.tuple #[])).run Tryz.prog w=.ok (.pointer (some ⟨w.heap.size,0,none⟩)) (w.alloc (.cells zO 28)):=by kernel_rfl
theorem run_build0O (w:World):(Instr.build 28 #[]).run Tryz.prog w=.ok (.agg zO) w:=by kernel_rfl
theorem run_build4O (a:Int)(h i:Nat)(c:Cp)(w:World):(Instr.build 28 #[(0,.int .i64 a),(1,.int .i64 (h:Int)),(2,.int .u32 (i:Int)),(3,capV c)]).run Tryz.prog w=.ok (.agg (openC a h i c)) w:=by kernel_rfl
theorem run_storeO {w:World}{g:Nat}{C C0:Array Value}{t:TypeId} (h:w.heap[g]?=some (.cells C0 t (0,0))) (h0:C0.size=12) (hC:OC C):(Instr.storeAt 28 (.pointer (some ⟨g,0,none⟩)) (.agg C)).run Tryz.prog w=.ok () (w.setCells g 0 C.toList) :=
 run_storeAt_mid (P:=Tryz.prog) w g 0 28 C (there_at h _ (by rw [hC.1,h0]; omega)) (by rw [infoO,hC.1]) hC.2
def OpIs (w w':World)(e:Ending)(r:(Nat×Nat×List Nat) ⊕ (Int×Nat×Nat×Cp)):Prop:=match r with
 | .inl (k,s,d)=>∃ u,e=.returned (.tuple #[.agg zO,u])∧NoteIs w.heap.size w' u k s d
 | .inr (a,h,i,c)=>e=.returned (.tuple #[.agg (openC a h i c),.agg #[.int .i64 0,.int .i64 0,.slice none 0 0]])
theorem nt_of {W:World}{X:Nat} (h:W.heap[X]?=some (.cells #[.int .i64 0,.int .i64 0,.slice none 0 0] 38 (0,0))):NtBox W X:=by
 have hr:=range_of h
 have hf:∀ j,W.frozen? ⟨X,j,none⟩=false:=fun j=>by simp [World.frozen?,h]
 exact ⟨(Array.getElem?_eq_some_iff.1 h).1,by have:=hr 0 _ rfl; simpa using this,by have:=hr 1 _ rfl; simpa using this,by have:=hr 2 _ rfl; simpa using this,hf 0,hf 1,hf 2⟩
structure OW (w W:World):Prop where
 bO:W.heap[w.heap.size]?=some (.cells zO 28 (0,0))
 bN:W.heap[w.heap.size+1]?=some (.cells #[.int .i64 0,.int .i64 0,.slice none 0 0] 38 (0,0))
 bel:Below w.heap.size w W
theorem OW.later {w W W':World}(h:OW w W)(hb:Below W.heap.size W W'):OW w W' :=
 ⟨by rw [hb.block _ (Array.getElem?_eq_some_iff.1 h.bO).1]; exact h.bO,by rw [hb.block _ (Array.getElem?_eq_some_iff.1 h.bN).1]; exact h.bN,h.bel.trans (hb.mono h.bel.size)⟩
theorem OW.made (w:World):OW w ((w.alloc (.cells zO 28)).alloc (.cells #[.int .i64 0,.int .i64 0,.slice none 0 0] 38)):=by
 refine ⟨?_,?_,((Below.refl _ _).alloc (Nat.le_refl _) _).alloc (by simp) _⟩
 ·unfold World.alloc
  simp only
  rw [Array.getElem?_push_lt (by simp),Array.getElem_push_eq]
 ·unfold World.alloc
  simp only
  have:w.heap.size+1=(w.heap.push (.cells zO 28)).size:=by simp
  rw [this,Array.getElem?_push_size]
structure OEnd (w W5:World) (k s:Nat) (d:List Nat) (a9:Option Addr) (n c9:Nat):Prop where
 rO:(W5.setCells (w.heap.size+1) 0 [.int .i64 (k:Int),.int .i64 (s:Int),.slice a9 n c9]).rangeAt w.heap.size 0 zO.toList
 rN:(W5.setCells (w.heap.size+1) 0 [.int .i64 (k:Int),.int .i64 (s:Int),.slice a9 n c9]).rangeAt (w.heap.size+1) 0 [.int .i64 (k:Int),.int .i64 (s:Int),.slice a9 n c9]
 own:(W5.setCells (w.heap.size+1) 0 [.int .i64 (k:Int),.int .i64 (s:Int),.slice a9 n c9]).ownsRow w.heap.size 5 1 (.slice a9 n c9) n (bcells d)
 bel:Below w.heap.size w (W5.setCells (w.heap.size+1) 0 [.int .i64 (k:Int),.int .i64 (s:Int),.slice a9 n c9])
theorem open_end (w W:World)(hW:OW w W)(k s:Nat)(a:Option Addr)(cap n:Nat)(d:List Nat)(hn:d.length=n)(hl:n≤50000)(h:BRd W a d) :
  Calls Tryz.prog 24 #[.int .i64 (k:Int),.int .i64 (s:Int),.slice a n cap] W fun e w3=>∃ a9 c9 W5,e=.returned (.agg #[.int .i64 (k:Int),.int .i64 (s:Int),.slice a9 n c9])∧Hid ((Instr.storeAt 28 (.pointer (some ⟨w.heap.size,0,none⟩)) (.agg zO)).run Tryz.prog w3=.ok () W5)∧Hid (NtBox W5 (w.heap.size+1))∧Hid (OEnd w W5 k s d a9 n c9):=by
 subst hn
 refine (noteof_any k s a cap d W hl h).mono ?_
 rintro e w3 ⟨u,rfl,⟨a9,c9,rfl,ho⟩,hb⟩
 have h3:=hW.later hb
 have h5:(w3.setCells w.heap.size 0 zO.toList).heap[w.heap.size]?=some (.cells zO 28 (0,0)):=bx_put h3.bO rfl
 have h6:(w3.setCells w.heap.size 0 zO.toList).heap[w.heap.size+1]?=some (.cells #[.int .i64 0,.int .i64 0,.slice none 0 0] 38 (0,0)):=by rw [heap_sets (by omega)]; exact h3.bN
 have hk:Keeps (fun x=>x=w.heap.size∨x=w.heap.size+1) w3 ((w3.setCells w.heap.size 0 zO.toList).setCells (w.heap.size+1) 0 [.int .i64 (k:Int),.int .i64 (s:Int),.slice a9 d.length c9]):=((Keeps.refl _ _).setCells _ 0 _ (.inl (.inl rfl))).setCells _ 0 _ (.inl (.inr rfl))
 have hsz:w.heap.size+1 < W.heap.size:=(Array.getElem?_eq_some_iff.1 hW.bN).1
 refine ⟨a9,c9,_,rfl,run_storeO h3.bO rfl OC.zero,nt_of h6,⟨bx_apart (range_of h5) (by omega),?_,?_,?_⟩⟩
 ·exact bx_set (C0:=#[.int .i64 0,.int .i64 0,.slice none 0 0]) (C:=#[.int .i64 (k:Int),.int .i64 (s:Int),.slice a9 d.length c9]) h6 (by simp)
 ·exact own_low (own_keep ho hk (fun x hx=>by omega)) (by omega)
 ·exact h3.bel.trans (hk.below _ h3.bel.size (fun x e=>by omega))
section
attribute [local go_sem ↓] keptO_store keptO_alloc keptO_build
set_option maxHeartbeats 4000000 in
theorem readopen_ver (g o n c x:Nat)(w:World)(hn:10≤n)(h0:w.cell? ⟨g,o,none⟩=some (.int .u8 (x:Int)))(hx:x≠4) :
  Calls Tryz.prog 25 #[.slice (some ⟨g,o,none⟩) n c] w fun e w'=>OpIs w w' e (.inl (2,1,[0,4]))∧Below w.heap.size w w':=by
 have zg:=World.block_lt_of_cell? w _ h0
 simp only at zg
 have hne:((x:Int) != 4)=true:=by simp; omega
 have HW:Hid (OW w ((w.alloc (.cells zO 28)).alloc (.cells #[.int .i64 0,.int .i64 0,.slice none 0 0] 38))):=OW.made w
 have c0:((w.alloc (.cells zO 28)).alloc (.cells #[.int .i64 0,.int .i64 0,.slice none 0 0] 38)).cell? ⟨g,o,none⟩=some (.int .u8 (x:Int)):=by rw [HW.out.bel.cell (p:=⟨g,o,none⟩) zg]; exact h0
 have hz2:((w.alloc (.cells zO 28)).alloc (.cells #[.int .i64 0,.int .i64 0,.slice none 0 0] 38)).heap.size=w.heap.size+1+1:=by simp
 have hcells:(#[.int .u8 (((4:Nat):Int) / 256),.int .u8 (((4:Nat):Int) % 256)]:Array Value)=#[.int .u8 0,.int .u8 4]:=rfl
 have hb2:=brd_two ((w.alloc (.cells zO 28)).alloc (.cells #[.int .i64 0,.int .i64 0,.slice none 0 0] 38)) 4 (by decide)
 have hw2:=HW.out.later ((Below.refl _ _).alloc (Nat.le_refl _) (.cells #[.int .u8 0,.int .u8 4] 5))
 rw [hcells,hz2] at hb2
 have KE:=hide (open_end w _ hw2 2 1 (some ⟨w.heap.size+1+1,0,none⟩) 2 2 [0,4] rfl (by decide) hb2)
 unfold OpIs NoteIs
 simp only
 clear hb2 hw2
 go_enter Tryz.func25,Tryz.ntmps25
 go_wp2_with (first | (refine keptO_alloc_intro _ (run_allocO w) ?_) | (refine keptO_build0_intro _ (run_build0O _) ?_))
 refine (number_two 4 _ (by decide)).mono ?_
 rintro e w2 ⟨rfl,rfl⟩
 go_wp2_with fail
 refine KE.out.mono ?_
 rintro e w3 ⟨a9,c9,W5,rfl,HST,HX,HF⟩
 obtain ⟨_,r0,r1,r2,f0,f1,f2⟩:=HX.out
 go_wp2_with (refine keptO_store_intro _ _ (.pointer (some ⟨w.heap.size,0,none⟩)) (.agg zO) (by rfl) (by rfl) HST.out ?_)
 refine bodyPost_ret (v:=.tuple #[.agg zO,.agg #[.int .i64 2,.int .i64 1,.slice a9 2 c9]]) (res_cells2 Tryz.results25 _ _ w.heap.size (w.heap.size+1) zO #[.int .i64 2,.int .i64 1,.slice a9 2 c9] rfl rfl HF.out.rO HF.out.rN Tryz.underlying28 rfl infoO Tryz.underlying38 rfl infoN) rfl ⟨?_,HF.out.bel⟩
 exact ⟨_,rfl,a9,c9,rfl,HF.out.own⟩
set_option maxHeartbeats 4000000 in
theorem readopen_fit (g o n c:Nat)(bs:List Nat)(w:World)(hn:bs.length=n)(hn10:10≤n)(hl:n≤5000)(hcap:n≤c)(h:BRd w (some ⟨g,o,none⟩) bs)(h4:bs.getD 0 0=4)(hfit:bs.getD 9 0≠n - 10) :
  Calls Tryz.prog 25 #[.slice (some ⟨g,o,none⟩) n c] w fun e w'=>OpIs w w' e (.inl (2,0,[]))∧Below w.heap.size w w':=by
 obtain ⟨g',o',e9,hc⟩:=h.1.2 (by omega)
 cases e9
 have h0:w.cell? ⟨g,o,none⟩=some (.int .u8 4):=by have:=hc 0 (by omega); rw [Nat.add_zero] at this; rw [this]; show some (Value.int .u8 ((bs.getD 0 0:Nat):Int))=_; rw [h4]; rfl
 have zg:=World.block_lt_of_cell? w _ h0
 simp only at zg
 have HW:Hid (OW w ((w.alloc (.cells zO 28)).alloc (.cells #[.int .i64 0,.int .i64 0,.slice none 0 0] 38))):=OW.made w
 have c0:((w.alloc (.cells zO 28)).alloc (.cells #[.int .i64 0,.int .i64 0,.slice none 0 0] 38)).cell? ⟨g,o,none⟩=some (.int .u8 4):=by rw [HW.out.bel.cell (p:=⟨g,o,none⟩) zg]; exact h0
 have hdl:(bs.drop 9).length=n - 9:=by rw [List.length_drop]; omega
 have hc9:¬ c=9:=by omega
 have hcut:=mcut_any (some ⟨g,o+9,none⟩) (c - 9) 1 (bs.drop 9) ((w.alloc (.cells zO 28)).alloc (.cells #[.int .i64 0,.int .i64 0,.slice none 0 0] 38)) (by omega) (by omega) (by omega) (by omega) ((brd_drop h (by omega)).below HW.out.bel)
 rw [hdl] at hcut
 have hnum:numB ((bs.drop 9).take 1)=bs.getD 9 0:=by
  have:(bs.drop 9).take 1=[bs.getD 9 0]:=by
   apply List.ext_getElem?
   intro i
   match i with
   | 0=>rw [List.getElem?_take_of_lt (by omega),List.getElem?_drop,List.getElem?_eq_getElem (by omega)]; simp [List.getD_eq_getElem?_getD,List.getElem?_eq_getElem (show 9 < bs.length by omega)]
   | i+1=>simp; omega
  rw [this]; simp [numB]
 have KC:Hid (Calls Tryz.prog 42 #[.slice (some ⟨g,o+9,none⟩) (n - 9) (c - 9),.int .i64 1] ((w.alloc (.cells zO 28)).alloc (.cells #[.int .i64 0,.int .i64 0,.slice none 0 0] 38)) fun e w'=>∃ v q aq cq ok,e=.returned (.tuple #[v,.slice aq q cq,.bool ok])∧(ok=false∨0 < q)∧∃ m,w'=((w.alloc (.cells zO 28)).alloc (.cells #[.int .i64 0,.int .i64 0,.slice none 0 0] 38)).drewN m):=by
  refine hcut.mono ?_
  rintro e w' ⟨hcu,hm⟩
  by_cases h2:(bs.drop 9).length < 1+numB ((bs.drop 9).take 1)
  ·rw [cutP_no (by omega) h2] at hcu
   exact ⟨_,_,_,_,_,hcu,.inl rfl,hm⟩
  ·rw [cutP_yes (by omega) h2] at hcu
   obtain ⟨ap,cp,aq,cq,e1,_,_,_,_⟩:=hcu
   refine ⟨_,_,_,_,_,e1,.inr ?_,hm⟩
   rw [List.length_drop,hdl,hnum]
   rw [hdl,hnum] at h2
   omega
 have KE:Hid (∀ m,Calls Tryz.prog 24 #[.int .i64 2,.int .i64 0,.slice none 0 0] (((w.alloc (.cells zO 28)).alloc (.cells #[.int .i64 0,.int .i64 0,.slice none 0 0] 38)).drewN m) fun e w3=>∃ a9 c9 W5,e=.returned (.agg #[.int .i64 2,.int .i64 0,.slice a9 0 c9])∧Hid ((Instr.storeAt 28 (.pointer (some ⟨w.heap.size,0,none⟩)) (.agg zO)).run Tryz.prog w3=.ok () W5)∧Hid (NtBox W5 (w.heap.size+1))∧Hid (OEnd w W5 2 0 [] a9 0 c9)):=fun m=>open_end w (((w.alloc (.cells zO 28)).alloc (.cells #[.int .i64 0,.int .i64 0,.slice none 0 0] 38)).drewN m) (HW.out.later (W':=((w.alloc (.cells zO 28)).alloc (.cells #[.int .i64 0,.int .i64 0,.slice none 0 0] 38)).drewN m) ⟨rfl,rfl,rfl,Nat.le_refl _,fun _ _=>rfl⟩) 2 0 none 0 0 [] rfl (by decide) (brd_none _ _)
 unfold OpIs NoteIs
 simp only
 have hni:(9:Int)≤(n:Int):=by omega
 have hnc:(n:Int)≤(c:Int):=by omega
 have hn0:(0:Int) < (n:Int):=by omega
 clear hc h hdl hcut hnum hfit h4 hcap hl hn
 go_enter Tryz.func25,Tryz.ntmps25
 go_wp2_with (first | (refine keptO_alloc_intro _ (run_allocO w) ?_))
 with_reducible refine KC.out.mono ?_
 rintro e w1 ⟨v,q,aq,cq,ok,rfl,hq,m,rfl⟩
 rcases hq with rfl | hq
 ·go_wp2_with (first | (refine keptO_build0_intro _ (run_build0O _) ?_))
  with_reducible refine (KE.out _).mono ?_
  rintro e w3 ⟨a9,c9,W5,rfl,HST,HX,HF⟩
  obtain ⟨_,r0,r1,r2,f0,f1,f2⟩:=HX.out
  go_wp2_with (refine keptO_store_intro _ _ (.pointer (some ⟨w.heap.size,0,none⟩)) (.agg zO) (by rfl) (by rfl) HST.out ?_)
  refine bodyPost_ret (v:=.tuple #[.agg zO,.agg #[.int .i64 2,.int .i64 0,.slice a9 0 c9]]) (res_cells2 Tryz.results25 _ _ w.heap.size (w.heap.size+1) zO #[.int .i64 2,.int .i64 0,.slice a9 0 c9] rfl rfl HF.out.rO HF.out.rN Tryz.underlying28 rfl infoO Tryz.underlying38 rfl infoN) rfl ⟨?_,HF.out.bel⟩
  exact ⟨_,rfl,a9,c9,rfl,HF.out.own⟩
 ·have hqi:(0:Int) < (q:Int):=by omega
  cases ok with
  | false =>
   go_wp2_with (first | (refine keptO_build0_intro _ (run_build0O _) ?_))
   with_reducible refine (KE.out _).mono ?_
   rintro e w3 ⟨a9,c9,W5,rfl,HST,HX,HF⟩
   obtain ⟨_,r0,r1,r2,f0,f1,f2⟩:=HX.out
   go_wp2_with (refine keptO_store_intro _ _ (.pointer (some ⟨w.heap.size,0,none⟩)) (.agg zO) (by rfl) (by rfl) HST.out ?_)
   refine bodyPost_ret (v:=.tuple #[.agg zO,.agg #[.int .i64 2,.int .i64 0,.slice a9 0 c9]]) (res_cells2 Tryz.results25 _ _ w.heap.size (w.heap.size+1) zO #[.int .i64 2,.int .i64 0,.slice a9 0 c9] rfl rfl HF.out.rO HF.out.rN Tryz.underlying28 rfl infoO Tryz.underlying38 rfl infoN) rfl ⟨?_,HF.out.bel⟩
   exact ⟨_,rfl,a9,c9,rfl,HF.out.own⟩
  | true =>
   go_wp2_with (first | (refine keptO_build0_intro _ (run_build0O _) ?_))
   with_reducible refine (KE.out _).mono ?_
   rintro e w3 ⟨a9,c9,W5,rfl,HST,HX,HF⟩
   obtain ⟨_,r0,r1,r2,f0,f1,f2⟩:=HX.out
   go_wp2_with (refine keptO_store_intro _ _ (.pointer (some ⟨w.heap.size,0,none⟩)) (.agg zO) (by rfl) (by rfl) HST.out ?_)
   refine bodyPost_ret (v:=.tuple #[.agg zO,.agg #[.int .i64 2,.int .i64 0,.slice a9 0 c9]]) (res_cells2 Tryz.results25 _ _ w.heap.size (w.heap.size+1) zO #[.int .i64 2,.int .i64 0,.slice a9 0 c9] rfl rfl HF.out.rO HF.out.rN Tryz.underlying28 rfl infoO Tryz.underlying38 rfl infoN) rfl ⟨?_,HF.out.bel⟩
   exact ⟨_,rfl,a9,c9,rfl,HF.out.own⟩
end
theorem num_in {w:World}{g o c k l:Nat}{bs:List Nat} (h:BRd w (some ⟨g,o,none⟩) bs) (hk:k+l≤bs.length) (h1:1≤l) (h4:l≤4):Calls Tryz.prog 41 #[.slice (some ⟨g,o+k,none⟩) l c] w fun e w'=>e=.returned (.int .i64 (numB ((bs.drop k).take l):Int))∧w'=w:=by
 have h2:=brd_from h k l hk
 have hl:((bs.drop k).take l).length=l:=by rw [List.length_take,List.length_drop]; omega
 obtain ⟨b2,o2,e2,hc2⟩:=h2.1.2 (by omega)
 cases e2
 exact mnumof_any g (o+k) l c ((bs.drop k).take l) w hl h4 h2.2 (fun i hi=>hc2 i (by omega))
theorem cut_fits {w:World}{g o c n:Nat}{bs:List Nat} (hn:bs.length=n) (hn10:10≤n) (hl:n≤5000) (hcap:n≤c) (h:BRd w (some ⟨g,o,none⟩) bs) (hfit:bs.getD 9 0=n - 10) :
  Calls Tryz.prog 42 #[.slice (some ⟨g,o+9,none⟩) (n - 9) (c - 9),.int .i64 1] w fun e w'=>∃ ap cp aq cq m,e=.returned (.tuple #[.slice ap (n - 10) cp,.slice aq 0 cq,.bool true])∧w'=w.drewN m∧Hid (BRd w ap (bs.drop 10))∧n - 10≤cp:=by
 have hdl:(bs.drop 9).length=n - 9:=by rw [List.length_drop]; omega
 have hcut:=mcut_any (some ⟨g,o+9,none⟩) (c - 9) 1 (bs.drop 9) w (by omega) (by omega) (by omega) (by omega) (brd_drop h (by omega))
 rw [hdl] at hcut
 have hnum:numB ((bs.drop 9).take 1)=bs.getD 9 0:=by
  have:(bs.drop 9).take 1=[bs.getD 9 0]:=by
   apply List.ext_getElem?
   intro i
   match i with
   | 0=>rw [List.getElem?_take_of_lt (by omega),List.getElem?_drop,List.getElem?_eq_getElem (by omega)]; simp [List.getD_eq_getElem?_getD,List.getElem?_eq_getElem (show 9 < bs.length by omega)]
   | i+1=>simp; omega
  rw [this]; simp [numB]
 refine hcut.mono ?_
 rintro e w' ⟨hcu,m,rfl⟩
 rw [cutP_yes (by omega) (by rw [hdl,hnum]; omega),hnum] at hcu
 obtain ⟨ap,cp,aq,cq,e1,h1,_,h3,_⟩:=hcu
 have hp:((bs.drop 9).drop 1).take (bs.getD 9 0)=bs.drop 10:=by
  rw [List.drop_drop,List.take_of_length_le (by rw [List.length_drop]; omega)]
 have hq:((bs.drop 9).drop (1+bs.getD 9 0)).length=0:=by rw [List.length_drop,hdl]; omega
 rw [hp] at e1 h1 h3
 rw [hq] at e1
 have hpl:(bs.drop 10).length=n - 10:=by rw [List.length_drop]; omega
 rw [hpl] at e1 h1
 exact ⟨ap,cp,aq,cq,m,e1,rfl,h3,h1⟩
section
attribute [local go_sem ↓] keptO_store keptO_alloc keptO_build
set_option maxHeartbeats 4000000 in
theorem readopen_none (g o n c:Nat)(bs:List Nat)(w:World)(hn:bs.length=n)(hn10:10≤n)(hl:n≤5000)(hcap:n≤c)(h:BRd w (some ⟨g,o,none⟩) bs)(h4:bs.getD 0 0=4)(hfit:bs.getD 9 0=n - 10)(hr:readC (bs.drop 10)=none) :
  Calls Tryz.prog 25 #[.slice (some ⟨g,o,none⟩) n c] w fun e w'=>OpIs w w' e (.inl (2,0,[]))∧Below w.heap.size w w':=by
 obtain ⟨g',o',e9,hc⟩:=h.1.2 (by omega)
 cases e9
 have h0:w.cell? ⟨g,o,none⟩=some (.int .u8 4):=by have:=hc 0 (by omega); rw [Nat.add_zero] at this; rw [this]; show some (Value.int .u8 ((bs.getD 0 0:Nat):Int))=_; rw [h4]; rfl
 have zg:=World.block_lt_of_cell? w _ h0
 simp only at zg
 have HW:Hid (OW w ((w.alloc (.cells zO 28)).alloc (.cells #[.int .i64 0,.int .i64 0,.slice none 0 0] 38))):=OW.made w
 have c0:((w.alloc (.cells zO 28)).alloc (.cells #[.int .i64 0,.int .i64 0,.slice none 0 0] 38)).cell? ⟨g,o,none⟩=some (.int .u8 4):=by rw [HW.out.bel.cell (p:=⟨g,o,none⟩) zg]; exact h0
 have hc9:¬ c=9:=by omega
 have KC:=hide (cut_fits (w:=((w.alloc (.cells zO 28)).alloc (.cells #[.int .i64 0,.int .i64 0,.slice none 0 0] 38))) hn hn10 hl hcap (h.below HW.out.bel) hfit)
 have hpl:(bs.drop 10).length=n - 10:=by rw [List.length_drop]; omega
 have KD:Hid (∀ m ap cp,n - 10≤cp→BRd ((w.alloc (.cells zO 28)).alloc (.cells #[.int .i64 0,.int .i64 0,.slice none 0 0] 38)) ap (bs.drop 10)→Calls Tryz.prog 43 #[.slice ap (n - 10) cp] (((w.alloc (.cells zO 28)).alloc (.cells #[.int .i64 0,.int .i64 0,.slice none 0 0] 38)).drewN m) fun e w'=>e=.returned (decV (readC (bs.drop 10)))∧Hid (Below w.heap.size w w')∧Hid (OW w w')):=fun m ap cp h1 h2=>by
  have:=decc_any ap cp (bs.drop 10) (((w.alloc (.cells zO 28)).alloc (.cells #[.int .i64 0,.int .i64 0,.slice none 0 0] 38)).drewN m) (by omega) (by omega) (h2.below ⟨rfl,rfl,rfl,Nat.le_refl _,fun _ _=>rfl⟩)
  rw [hpl] at this
  refine this.mono ?_
  rintro e w' ⟨rfl,hb⟩
  have hw:=(HW.out.later (W':=((w.alloc (.cells zO 28)).alloc (.cells #[.int .i64 0,.int .i64 0,.slice none 0 0] 38)).drewN m) ⟨rfl,rfl,rfl,Nat.le_refl _,fun _ _=>rfl⟩).later hb
  exact ⟨rfl,hw.bel,hw⟩
 have KE:Hid (∀ X s,OW w X→Calls Tryz.prog 24 #[.int .i64 2,.int .i64 ((s:Nat):Int),.slice none 0 0] X fun e w3=>∃ a9 c9 W5,e=.returned (.agg #[.int .i64 2,.int .i64 (s:Int),.slice a9 0 c9])∧Hid ((Instr.storeAt 28 (.pointer (some ⟨w.heap.size,0,none⟩)) (.agg zO)).run Tryz.prog w3=.ok () W5)∧Hid (NtBox W5 (w.heap.size+1))∧Hid (OEnd w W5 2 s [] a9 0 c9)):=fun X s hX=>open_end w X hX 2 s none 0 0 [] rfl (by decide) (brd_none _ _)
 unfold OpIs NoteIs
 simp only
 have hni:(9:Int)≤(n:Int):=by omega
 have hnc:(n:Int)≤(c:Int):=by omega
 have hn0:(0:Int) < (n:Int):=by omega
 simp only [hr,decV,capV,cp0,Option.getD_none,Option.isSome_none] at KD
 clear hc h hfit h4 hcap hl hn hpl hr
 go_enter Tryz.func25,Tryz.ntmps25
 go_wp2_with (first | (refine keptO_alloc_intro _ (run_allocO w) ?_))
 with_reducible refine KC.out.mono ?_
 rintro e w1 ⟨ap,cp,aq,cq,m,rfl,rfl,HP,hcp⟩
 go_wp2_with fail
 with_reducible refine (KD.out m ap cp hcp HP.out).mono ?_
 rintro e w2 ⟨rfl,HB2,HW2⟩
 go_wp2_with (first | (refine keptO_build0_intro _ (run_build0O _) ?_))
 refine (KE.out _ 0 (HW2.out.later ((Below.refl _ _).alloc (Nat.le_refl _) _))).mono ?_
 rintro e w3 ⟨a9,c9,W5,rfl,HST,HX,HF⟩
 obtain ⟨_,r0,r1,r2,f0,f1,f2⟩:=HX.out
 go_wp2_with (refine keptO_store_intro _ _ (.pointer (some ⟨w.heap.size,0,none⟩)) (.agg zO) (by rfl) (by rfl) HST.out ?_)
 refine bodyPost_ret (v:=.tuple #[.agg zO,.agg #[.int .i64 2,.int .i64 0,.slice a9 0 c9]]) (res_cells2 Tryz.results25 _ _ w.heap.size (w.heap.size+1) zO #[.int .i64 2,.int .i64 0,.slice a9 0 c9] rfl rfl HF.out.rO HF.out.rN Tryz.underlying28 rfl infoO Tryz.underlying38 rfl infoN) rfl ⟨?_,HF.out.bel⟩
 exact ⟨_,rfl,a9,c9,rfl,HF.out.own⟩
set_option maxHeartbeats 4000000 in
theorem readopen_as (g o n c:Nat)(bs:List Nat)(w:World)(hn:bs.length=n)(hn10:10≤n)(hl:n≤5000)(hcap:n≤c)(h:BRd w (some ⟨g,o,none⟩) bs)(h4:bs.getD 0 0=4)(hfit:bs.getD 9 0=n - 10)(cc:Cp)(hr:readC (bs.drop 10)=some cc)(hs:asB (numB ((bs.drop 1).take 2)) cc=false) :
  Calls Tryz.prog 25 #[.slice (some ⟨g,o,none⟩) n c] w fun e w'=>OpIs w w' e (.inl (2,2,[]))∧Below w.heap.size w w':=by
 obtain ⟨g',o',e9,hc⟩:=h.1.2 (by omega)
 cases e9
 have h0:w.cell? ⟨g,o,none⟩=some (.int .u8 4):=by have:=hc 0 (by omega); rw [Nat.add_zero] at this; rw [this]; show some (Value.int .u8 ((bs.getD 0 0:Nat):Int))=_; rw [h4]; rfl
 have zg:=World.block_lt_of_cell? w _ h0
 simp only at zg
 have HW:Hid (OW w ((w.alloc (.cells zO 28)).alloc (.cells #[.int .i64 0,.int .i64 0,.slice none 0 0] 38))):=OW.made w
 have c0:((w.alloc (.cells zO 28)).alloc (.cells #[.int .i64 0,.int .i64 0,.slice none 0 0] 38)).cell? ⟨g,o,none⟩=some (.int .u8 4):=by rw [HW.out.bel.cell (p:=⟨g,o,none⟩) zg]; exact h0
 have hc9:¬ c=9:=by omega
 have KC:=hide (cut_fits (w:=((w.alloc (.cells zO 28)).alloc (.cells #[.int .i64 0,.int .i64 0,.slice none 0 0] 38))) hn hn10 hl hcap (h.below HW.out.bel) hfit)
 have hpl:(bs.drop 10).length=n - 10:=by rw [List.length_drop]; omega
 have KD:Hid (∀ m ap cp,n - 10≤cp→BRd ((w.alloc (.cells zO 28)).alloc (.cells #[.int .i64 0,.int .i64 0,.slice none 0 0] 38)) ap (bs.drop 10)→Calls Tryz.prog 43 #[.slice ap (n - 10) cp] (((w.alloc (.cells zO 28)).alloc (.cells #[.int .i64 0,.int .i64 0,.slice none 0 0] 38)).drewN m) fun e w'=>e=.returned (decV (readC (bs.drop 10)))∧Hid (Below w.heap.size w w')∧Hid (OW w w')):=fun m ap cp h1 h2=>by
  have:=decc_any ap cp (bs.drop 10) (((w.alloc (.cells zO 28)).alloc (.cells #[.int .i64 0,.int .i64 0,.slice none 0 0] 38)).drewN m) (by omega) (by omega) (h2.below ⟨rfl,rfl,rfl,Nat.le_refl _,fun _ _=>rfl⟩)
  rw [hpl] at this
  refine this.mono ?_
  rintro e w' ⟨rfl,hb⟩
  have hw:=(HW.out.later (W':=((w.alloc (.cells zO 28)).alloc (.cells #[.int .i64 0,.int .i64 0,.slice none 0 0] 38)).drewN m) ⟨rfl,rfl,rfl,Nat.le_refl _,fun _ _=>rfl⟩).later hb
  exact ⟨rfl,hw.bel,hw⟩
 have KE:Hid (∀ X s,OW w X→Calls Tryz.prog 24 #[.int .i64 2,.int .i64 ((s:Nat):Int),.slice none 0 0] X fun e w3=>∃ a9 c9 W5,e=.returned (.agg #[.int .i64 2,.int .i64 (s:Int),.slice a9 0 c9])∧Hid ((Instr.storeAt 28 (.pointer (some ⟨w.heap.size,0,none⟩)) (.agg zO)).run Tryz.prog w3=.ok () W5)∧Hid (NtBox W5 (w.heap.size+1))∧Hid (OEnd w W5 2 s [] a9 0 c9)):=fun X s hX=>open_end w X hX 2 s none 0 0 [] rfl (by decide) (brd_none _ _)
 unfold OpIs NoteIs
 simp only
 have hni:(9:Int)≤(n:Int):=by omega
 have hnc:(n:Int)≤(c:Int):=by omega
 have hn0:(0:Int) < (n:Int):=by omega
 have hv:asV (numB ((bs.drop 1).take 2)) cc=0:=by unfold asV; rw [hs]; rfl
 simp only [hr,decV,capV,Option.getD_some,Option.isSome_some] at KD
 have HN:Hid (∀ X,Below w.heap.size w X→Calls Tryz.prog 41 #[.slice (some ⟨g,o+1,none⟩) 2 (c - 1)] X fun e w'=>e=.returned (.int .i64 (numB ((bs.drop 1).take 2):Int))∧w'=X):=fun X hX=>num_in (h.below hX) (by omega) (by omega) (by omega)
 have HA:Hid (∀ X,Calls Tryz.prog 44 #[.int .i64 (numB ((bs.drop 1).take 2):Int),.agg #[.bool cc.four,.int .i64 cc.as4,.bool cc.gr,.bool cc.rs,.int .i64 cc.tm,.bool cc.fam,.bool cc.fwd,.bool cc.ll,.int .i64 cc.lt]] X fun e w'=>e=.returned (.tuple #[.int .i64 0,.bool false])∧Below X.heap.size X w'):=fun X=>by
  have:=readas_any (numB ((bs.drop 1).take 2)) cc X
  rw [hv,hs] at this
  exact this
 clear hc h hfit h4 hcap hl hn hpl hr hs hv
 generalize numB ((bs.drop 1).take 2)=s at *
 obtain ⟨four,as4,gr,rs,tm,fam,fwd,ll,lt⟩:=cc
 simp only at KD HA
 have hc1:¬ c=1:=by omega
 go_enter Tryz.func25,Tryz.ntmps25
 go_wp2_with (first | (refine keptO_alloc_intro _ (run_allocO w) ?_))
 with_reducible refine KC.out.mono ?_
 rintro e w1 ⟨ap,cp,aq,cq,m,rfl,rfl,HP,hcp⟩
 go_wp2_with fail
 with_reducible refine (KD.out m ap cp hcp HP.out).mono ?_
 rintro e w2 ⟨rfl,HB2,HW2⟩
 have HBA:Hid (Below w.heap.size w (w2.alloc (.cells #[.bool four,.int .i64 as4,.bool gr,.bool rs,.int .i64 tm,.bool fam,.bool fwd,.bool ll,.int .i64 lt] 26))):=HB2.out.alloc HB2.out.size _
 have HWA:Hid (OW w (w2.alloc (.cells #[.bool four,.int .i64 as4,.bool gr,.bool rs,.int .i64 tm,.bool fam,.bool fwd,.bool ll,.int .i64 lt] 26))):=HW2.out.later ((Below.refl _ _).alloc (Nat.le_refl _) _)
 have KN:Hid (∀ x:Later (w2.alloc (.cells #[.bool four,.int .i64 as4,.bool gr,.bool rs,.int .i64 tm,.bool fam,.bool fwd,.bool ll,.int .i64 lt] 26)),Calls Tryz.prog 41 #[.slice (some ⟨g,o+1,none⟩) 2 (c - 1)] x.w fun e w'=>e=.returned (.int .i64 (s:Int))∧∃ y:Later (w2.alloc (.cells #[.bool four,.int .i64 as4,.bool gr,.bool rs,.int .i64 tm,.bool fam,.bool fwd,.bool ll,.int .i64 lt] 26)),w'=y.w):=fun x=>calls_same x (HN.out x.w (HBA.out.trans (x.h.mono HBA.out.size)))
 have KA:Hid (∀ x:Later (w2.alloc (.cells #[.bool four,.int .i64 as4,.bool gr,.bool rs,.int .i64 tm,.bool fam,.bool fwd,.bool ll,.int .i64 lt] 26)),Calls Tryz.prog 44 #[.int .i64 (s:Int),.agg #[.bool four,.int .i64 as4,.bool gr,.bool rs,.int .i64 tm,.bool fam,.bool fwd,.bool ll,.int .i64 lt]] x.w fun e w'=>e=.returned (.tuple #[.int .i64 0,.bool false])∧∃ y:Later (w2.alloc (.cells #[.bool four,.int .i64 as4,.bool gr,.bool rs,.int .i64 tm,.bool fam,.bool fwd,.bool ll,.int .i64 lt] 26)),w'=y.w):=fun x=>calls_later x (HA.out x.w)
 have y0:∀ x:Later (w2.alloc (.cells #[.bool four,.int .i64 as4,.bool gr,.bool rs,.int .i64 tm,.bool fam,.bool fwd,.bool ll,.int .i64 lt] 26)),x.w.cell? ⟨w2.heap.size,0,none⟩=some (.bool four):=fun x=>x.cell (by simp [go_sem])
 have y1:∀ x:Later (w2.alloc (.cells #[.bool four,.int .i64 as4,.bool gr,.bool rs,.int .i64 tm,.bool fam,.bool fwd,.bool ll,.int .i64 lt] 26)),x.w.cell? ⟨w2.heap.size,1,none⟩=some (.int .i64 as4):=fun x=>x.cell (by simp [go_sem])
 have y2:∀ x:Later (w2.alloc (.cells #[.bool four,.int .i64 as4,.bool gr,.bool rs,.int .i64 tm,.bool fam,.bool fwd,.bool ll,.int .i64 lt] 26)),x.w.cell? ⟨w2.heap.size,2,none⟩=some (.bool gr):=fun x=>x.cell (by simp [go_sem])
 have y3:∀ x:Later (w2.alloc (.cells #[.bool four,.int .i64 as4,.bool gr,.bool rs,.int .i64 tm,.bool fam,.bool fwd,.bool ll,.int .i64 lt] 26)),x.w.cell? ⟨w2.heap.size,3,none⟩=some (.bool rs):=fun x=>x.cell (by simp [go_sem])
 have y4:∀ x:Later (w2.alloc (.cells #[.bool four,.int .i64 as4,.bool gr,.bool rs,.int .i64 tm,.bool fam,.bool fwd,.bool ll,.int .i64 lt] 26)),x.w.cell? ⟨w2.heap.size,4,none⟩=some (.int .i64 tm):=fun x=>x.cell (by simp [go_sem])
 have y5:∀ x:Later (w2.alloc (.cells #[.bool four,.int .i64 as4,.bool gr,.bool rs,.int .i64 tm,.bool fam,.bool fwd,.bool ll,.int .i64 lt] 26)),x.w.cell? ⟨w2.heap.size,5,none⟩=some (.bool fam):=fun x=>x.cell (by simp [go_sem])
 have y6:∀ x:Later (w2.alloc (.cells #[.bool four,.int .i64 as4,.bool gr,.bool rs,.int .i64 tm,.bool fam,.bool fwd,.bool ll,.int .i64 lt] 26)),x.w.cell? ⟨w2.heap.size,6,none⟩=some (.bool fwd):=fun x=>x.cell (by simp [go_sem])
 have y7:∀ x:Later (w2.alloc (.cells #[.bool four,.int .i64 as4,.bool gr,.bool rs,.int .i64 tm,.bool fam,.bool fwd,.bool ll,.int .i64 lt] 26)),x.w.cell? ⟨w2.heap.size,7,none⟩=some (.bool ll):=fun x=>x.cell (by simp [go_sem])
 have y8:∀ x:Later (w2.alloc (.cells #[.bool four,.int .i64 as4,.bool gr,.bool rs,.int .i64 tm,.bool fam,.bool fwd,.bool ll,.int .i64 lt] 26)),x.w.cell? ⟨w2.heap.size,8,none⟩=some (.int .i64 lt):=fun x=>x.cell (by simp [go_sem])
 have hne:=later_some (w2.alloc (.cells #[.bool four,.int .i64 as4,.bool gr,.bool rs,.int .i64 tm,.bool fam,.bool fwd,.bool ll,.int .i64 lt] 26))
 go_wp2_with fail
 refine region_later (by kernel_rfl) (by kernel_rfl) ?_
 repeat (go_big_quiet_step (first | (go_at_call 41; with_reducible exact KN.out _) | (go_at_call 44; with_reducible exact KA.out _)))
 refine wpQuiet_nil ?_
 rintro _ ⟨xq,rfl⟩
 have HWX:=hide (HWA.out.later xq.h)
 go_wp2_with (first | (refine keptO_build0_intro _ (run_build0O _) ?_))
 refine (KE.out _ 2 HWX.out).mono ?_
 rintro e w3 ⟨a9,c9,W5,rfl,HST,HX,HF⟩
 obtain ⟨_,r0,r1,r2,f0,f1,f2⟩:=HX.out
 go_wp2_with (refine keptO_store_intro _ _ (.pointer (some ⟨w.heap.size,0,none⟩)) (.agg zO) (by rfl) (by rfl) HST.out ?_)
 refine bodyPost_ret (v:=.tuple #[.agg zO,.agg #[.int .i64 2,.int .i64 2,.slice a9 0 c9]]) (res_cells2 Tryz.results25 _ _ w.heap.size (w.heap.size+1) zO #[.int .i64 2,.int .i64 2,.slice a9 0 c9] rfl rfl HF.out.rO HF.out.rN Tryz.underlying28 rfl infoO Tryz.underlying38 rfl infoN) rfl ⟨?_,HF.out.bel⟩
 exact ⟨_,rfl,a9,c9,rfl,HF.out.own⟩
end
section
variable {a:Act}{w:World}{dst:Option Tmp}{ty:TypeId}{pos:String}{after:Array Edge}{K:Act→World→Prop}{Q:Exit→Act→World→Prop}{ρ:Operand→Value}
theorem run_numof (x:Operand)(u:Value)(hf:ρ (.func 41)=.func (.func 41) #[] #[])(hx:ρ x=u) :
  (execOp ρ { dst:=dst,op:=.call { callee:=.value (.func 41),args:=#[x],argTypes:=#[22] },type:=ty,pos:=pos,after:=after,guard:=none }).run Tryz.prog w=.ok (.enter 41 #[u]) w:=by
 unfold execOp
 simp [resolve,invoke,hf,hx,go_sem]
theorem call_numof (x:Operand)(u:Value)(hx:a.eval x=u)(h:Calls Tryz.prog 41 #[u] w fun e w'=>∃ r,e=.returned r∧K (a.put dst r) w') :
  Oper.wp Tryz.prog { dst:=dst,op:=.call { callee:=.value (.func 41),args:=#[x],argTypes:=#[22] },type:=ty,pos:=pos,after:=after,guard:=none } a w K Q:=by
 unfold Oper.wp
 rw [run_numof (ρ:=a.eval) x u rfl hx]
 refine Calls.mono h ?_
 rintro _ w' ⟨r,rfl,hk⟩
 exact hk
theorem run_of_build4 {x0 x1 x2 x3:Operand}{A:Int}{h i:Nat}{c:Cp} (h0:ρ x0=.int .i64 A) (h1:ρ x1=.int .i64 (h:Int)) (h2:ρ x2=.int .u32 (i:Int)) (h3:ρ x3=capV c) :
  (execOp ρ { dst:=dst,op:=.build 28 #[(0,x0),(1,x1),(2,x2),(3,x3)],type:=ty,pos:=pos,after:=after,guard:=none }).run Tryz.prog w=.ok (.value (.agg (openC A h i c))) w:=by
 unfold execOp
 have e:(#[(0,x0),(1,x1),(2,x2),(3,x3)].map fun ((i,x):Nat×Operand)=>(i,ρ x))=#[(0,.int .i64 A),(1,.int .i64 (h:Int)),(2,.int .u32 (i:Int)),(3,capV c)]:=by simp [h0,h1,h2,h3]
 simp only [e,Sem.run_bind,run_build4O,Result.andThen_ok,Sem.run_pure]
theorem run_of_buildN:(execOp ρ { dst:=dst,op:=.build 38 #[],type:=ty,pos:=pos,after:=after,guard:=none }).run Tryz.prog w=.ok (.value (.agg #[.int .i64 0,.int .i64 0,.slice none 0 0])) w:=by
 unfold execOp
 simp [go_sem]
theorem run_of_loadC {x:Operand}{g:Nat}{c:Cp} (hx:ρ x=.pointer (some ⟨g,0,none⟩)) (h:w.rangeAt g 0 (capC c).toList):(execOp ρ { dst:=dst,op:=.load 26 x,type:=ty,pos:=pos,after:=after,guard:=none }).run Tryz.prog w=.ok (.value (capV c)) w:=by
 have hr:=run_loadAt_mid (P:=Tryz.prog) w g 0 26 (capC c).toList _ h Tryz.underlying26 rfl (show (Tryz.prog.info? 26).map (·.size)=some 9 by kernel_rfl)
 have e:Value.agg (capC c).toList.toArray=capV c:=rfl
 unfold execOp
 simp only [hx,Sem.run_bind,hr,Result.andThen_ok,Sem.run_pure,e]
end
section
variable {ops:Array Oper}{Q:Exit→Act→World→Prop}{id:Nat}
set_option maxHeartbeats 1600000 in
/-- 'return api.Open{AS: as, Hold: numberOf(b[3:5]), ID: uint32(numberOf(b[5:9])), Caps: c}, api.Note{}'. -/
theorem o_region (b:Act)(w1:World)(gO gN Y g o n c:Nat)(A:Int)(hh ii:Nat)(cc:Cp)(C0 N0:Array Value)
  (o0:opk ops 0 (some 53) (.move (.tmp 8)))
  (o1:opk ops 1 (some 54) (.move (.tmp 0)))
  (o2:opk ops 2 (some 55) (.slice 22 (.tmp 54) (some (.const (.int .i64 3))) (some (.const (.int .i64 5))) none))
  (o3:opk ops 3 (some 56) (.call { callee:=.value (.func 41),args:=#[.tmp 55],argTypes:=#[22] }))
  (o4:opk ops 4 (some 57) (.move (.tmp 0)))
  (o5:opk ops 5 (some 58) (.slice 22 (.tmp 57) (some (.const (.int .i64 5))) (some (.const (.int .i64 9))) none))
  (o6:opk ops 6 (some 59) (.call { callee:=.value (.func 41),args:=#[.tmp 58],argTypes:=#[22] }))
  (o7:opk ops 7 (some 60) (.convert 3 24 (.tmp 59)))
  (o8:opk ops 8 (some 61) (.load 26 (.tmp 7)))
  (o9:opk ops 9 (some 62) (.build 28 #[(0,.tmp 53),(1,.tmp 56),(2,.tmp 60),(3,.tmp 61)]))
  (o10:opk ops 10 (some 63) (.build 38 #[]))
  (o11:opk ops 11 none (.store 28 (.tmp 2) (.tmp 62)))
  (o12:opk ops 12 none (.store 38 (.tmp 3) (.tmp 63)))
  (hsz:ops.size=13) (hns:Region.noSelect ops=true)
  (t0:tk ops #[false,false,false,false,false,false,false,false,false,false,false,false,false] 0=true)
  (t1:tk ops #[true,false,false,false,false,false,false,false,false,false,false,false,false] 1=true)
  (t2:tk ops #[true,true,false,false,false,false,false,false,false,false,false,false,false] 2=true)
  (t4:tk ops #[true,true,true,false,false,false,false,false,false,false,false,false,false] 4=true)
  (t5:tk ops #[true,true,true,false,true,false,false,false,false,false,false,false,false] 5=true)
  (t8:tk ops #[true,true,true,false,true,true,false,false,false,false,false,false,false] 8=true)
  (t10:tk ops #[true,true,true,false,true,true,false,false,true,false,false,false,false] 10=true)
  (t7:tk ops #[true,true,true,true,true,true,true,false,true,false,true,false,false] 7=true)
  (t9:tk ops #[true,true,true,true,true,true,true,true,true,false,true,false,false] 9=true)
  (r3:Region.ready .any ops #[true,true,true,false,true,true,false,false,true,false,true,false,false]=[3]) (r6:Region.ready .any ops #[true,true,true,true,true,true,false,false,true,false,true,false,false]=[6])
  (r11:Region.ready .any ops #[true,true,true,true,true,true,true,true,true,true,true,false,false]=[11]) (r12:Region.ready .any ops #[true,true,true,true,true,true,true,true,true,true,true,true,false]=[12]) (rE:Region.ready .any ops #[true,true,true,true,true,true,true,true,true,true,true,true,true]=[])
  (hb:b.tmps.size=64) (s0:b.tmps[0]?=some (.slice (some ⟨g,o,none⟩) n c)) (s8:b.tmps[8]?=some (.int .i64 A)) (s7:b.tmps[7]?=some (.pointer (some ⟨Y,0,none⟩))) (s2:b.tmps[2]?=some (.pointer (some ⟨gO,0,none⟩))) (s3:b.tmps[3]?=some (.pointer (some ⟨gN,0,none⟩)))
  (hn:10≤n) (hl:n≤5000) (hc:n≤c) (hid:ii < 4294967296)
  (bO:w1.heap[gO]?=some (.cells C0 28 (0,0))) (bN:w1.heap[gN]?=some (.cells N0 38 (0,0))) (hne:gN≠gO) (hO:C0.size=12) (hN:N0.size=3)
  (bY:w1.heap[Y]?=some (.cells (capC cc) 26 (0,0))) (hY:Y≠gO∧Y≠gN)
  (k3:∀ X,Keeps (fun k=>k=gO∨k=gN) w1 X→Calls Tryz.prog 41 #[.slice (some ⟨g,o+3,none⟩) 2 (c - 3)] X fun e w'=>e=.returned (.int .i64 (hh:Int))∧w'=X)
  (k6:∀ X,Keeps (fun k=>k=gO∨k=gN) w1 X→Calls Tryz.prog 41 #[.slice (some ⟨g,o+5,none⟩) 4 (c - 5)] X fun e w'=>e=.returned (.int .i64 (ii:Int))∧w'=X)
  (fin:∀ a,a.tmps[2]?=some (.pointer (some ⟨gO,0,none⟩))→a.tmps[3]?=some (.pointer (some ⟨gN,0,none⟩))→a.defers=b.defers→Q .normal a ((({ w1 with drawn:=w1.drawn+1 } : World).setCells gO 0 (openC A hh ii cc).toList).setCells gN 0 (#[.int .i64 0,.int .i64 0,.slice none 0 0]:Array Value).toList)) :
  (Code.region id ops true).wp Tryz.prog Q b w1:=by
 obtain ⟨a0,p0,e0,h0'⟩:=o0
 obtain ⟨a1,p1,e1,h1'⟩:=o1
 obtain ⟨a2,p2,e2,h2'⟩:=o2
 obtain ⟨a3,p3,e3,h3'⟩:=o3
 obtain ⟨a4,p4,e4,h4'⟩:=o4
 obtain ⟨a5,p5,e5,h5'⟩:=o5
 obtain ⟨a6,p6,e6,h6'⟩:=o6
 obtain ⟨a7,p7,e7,h7'⟩:=o7
 obtain ⟨a8,p8,e8,h8'⟩:=o8
 obtain ⟨a9,p9,e9,h9'⟩:=o9
 obtain ⟨a10,p10,e10,h10'⟩:=o10
 obtain ⟨a11,p11,e11,h11'⟩:=o11
 obtain ⟨a12,p12,e12,h12'⟩:=o12
 have zY:=(Array.getElem?_eq_some_iff.1 bY).1
 have hc3:¬ c=3:=by omega
 have hc5:¬ c=5:=by omega
 have hc9:(9:Int)≤(c:Int):=by omega
 have hc5i:(5:Int)≤(c:Int):=by omega
 refine wp_region_noPanic ?_
 refine wp_region_held (S:=fun W=>Keeps (fun k=>k=gO∨k=gN) w1 W) (by kernel_rfl) ?_
 rw [hsz]
 have hdr:Keeps (fun k=>k=gO∨k=gN) w1 { w1 with drawn:=w1.drawn+1 }:=⟨rfl,rfl,rfl,Nat.le_refl _,fun _ _ _=>rfl⟩
 have f0:Fr [53,54,55,57,58,61,63,56,59,60,62] b b:=Fr.refl _ _
 show wpAnyH Tryz.prog .any ops (NoPanic Q) _ (12+1) #[false,false,false,false,false,false,false,false,false,false,false,false,false] _ _
 refine take_slot h0' rfl rfl hns (tk1 t0) (tk2 t0) (v:=(.int .i64 A)) (fun _ _ _ _ h=>h) (fun W _=>op_move _ W _ _ _ rfl (slot_eval (f0.slot (by decide) s8))) hdr ?_
 obtain ⟨A1,hA1⟩:∃ Z,Z=b.put (some 53) (.int .i64 A):=⟨_,rfl⟩
 rw [← hA1]
 have f1:Fr [53,54,55,57,58,61,63,56,59,60,62] b A1:=by rw [hA1]; exact f0.put (by decide) _
 have g1_53:A1.tmps[53]?=some (.int .i64 A):=by rw [hA1]; exact slot_same _ (by rw [f0.size,hb]; decide)
 clear hA1
 show wpAnyH Tryz.prog .any ops (NoPanic Q) _ (11+1) #[true,false,false,false,false,false,false,false,false,false,false,false,false] _ _
 refine take_slot h1' rfl rfl hns (tk1 t1) (tk2 t1) (v:=(.slice (some ⟨g,o,none⟩) n c)) (fun _ _ _ _ h=>h) (fun W _=>op_move _ W _ _ _ rfl (slot_eval (f1.slot (by decide) s0))) hdr ?_
 obtain ⟨A2,hA2⟩:∃ Z,Z=A1.put (some 54) (.slice (some ⟨g,o,none⟩) n c):=⟨_,rfl⟩
 rw [← hA2]
 have f2:Fr [53,54,55,57,58,61,63,56,59,60,62] b A2:=by rw [hA2]; exact f1.put (by decide) _
 have g2_53:A2.tmps[53]?=some (.int .i64 A):=by rw [hA2,slot_put _ (by decide)]; exact g1_53
 have g2_54:A2.tmps[54]?=some (.slice (some ⟨g,o,none⟩) n c):=by rw [hA2]; exact slot_same _ (by rw [f1.size,hb]; decide)
 clear hA2
 show wpAnyH Tryz.prog .any ops (NoPanic Q) _ (10+1) #[true,true,false,false,false,false,false,false,false,false,false,false,false] _ _
 refine take_slot h2' rfl rfl hns (tk1 t2) (tk2 t2) (v:=(.slice (some ⟨g,o+3,none⟩) 2 (c - 3))) (fun _ _ _ _ h=>h) (fun W _=>by
  have q:=slot_eval g2_54
  unfold execOp
  simp only [q]
  simp [go_sem,hc5i,hc3]) hdr ?_
 obtain ⟨A3,hA3⟩:∃ Z,Z=A2.put (some 55) (.slice (some ⟨g,o+3,none⟩) 2 (c - 3)):=⟨_,rfl⟩
 rw [← hA3]
 have f3:Fr [53,54,55,57,58,61,63,56,59,60,62] b A3:=by rw [hA3]; exact f2.put (by decide) _
 have g3_53:A3.tmps[53]?=some (.int .i64 A):=by rw [hA3,slot_put _ (by decide)]; exact g2_53
 have g3_54:A3.tmps[54]?=some (.slice (some ⟨g,o,none⟩) n c):=by rw [hA3,slot_put _ (by decide)]; exact g2_54
 have g3_55:A3.tmps[55]?=some (.slice (some ⟨g,o+3,none⟩) 2 (c - 3)):=by rw [hA3]; exact slot_same _ (by rw [f2.size,hb]; decide)
 clear hA3
 show wpAnyH Tryz.prog .any ops (NoPanic Q) _ (9+1) #[true,true,true,false,false,false,false,false,false,false,false,false,false] _ _
 refine take_slot h4' rfl rfl hns (tk1 t4) (tk2 t4) (v:=(.slice (some ⟨g,o,none⟩) n c)) (fun _ _ _ _ h=>h) (fun W _=>op_move _ W _ _ _ rfl (slot_eval (f3.slot (by decide) s0))) hdr ?_
 obtain ⟨A4,hA4⟩:∃ Z,Z=A3.put (some 57) (.slice (some ⟨g,o,none⟩) n c):=⟨_,rfl⟩
 rw [← hA4]
 have f4:Fr [53,54,55,57,58,61,63,56,59,60,62] b A4:=by rw [hA4]; exact f3.put (by decide) _
 have g4_53:A4.tmps[53]?=some (.int .i64 A):=by rw [hA4,slot_put _ (by decide)]; exact g3_53
 have g4_54:A4.tmps[54]?=some (.slice (some ⟨g,o,none⟩) n c):=by rw [hA4,slot_put _ (by decide)]; exact g3_54
 have g4_55:A4.tmps[55]?=some (.slice (some ⟨g,o+3,none⟩) 2 (c - 3)):=by rw [hA4,slot_put _ (by decide)]; exact g3_55
 have g4_57:A4.tmps[57]?=some (.slice (some ⟨g,o,none⟩) n c):=by rw [hA4]; exact slot_same _ (by rw [f3.size,hb]; decide)
 clear hA4
 show wpAnyH Tryz.prog .any ops (NoPanic Q) _ (8+1) #[true,true,true,false,true,false,false,false,false,false,false,false,false] _ _
 refine take_slot h5' rfl rfl hns (tk1 t5) (tk2 t5) (v:=(.slice (some ⟨g,o+5,none⟩) 4 (c - 5))) (fun _ _ _ _ h=>h) (fun W _=>by
  have q:=slot_eval g4_57
  unfold execOp
  simp only [q]
  simp [go_sem,hc9,hc5]) hdr ?_
 obtain ⟨A5,hA5⟩:∃ Z,Z=A4.put (some 58) (.slice (some ⟨g,o+5,none⟩) 4 (c - 5)):=⟨_,rfl⟩
 rw [← hA5]
 have f5:Fr [53,54,55,57,58,61,63,56,59,60,62] b A5:=by rw [hA5]; exact f4.put (by decide) _
 have g5_53:A5.tmps[53]?=some (.int .i64 A):=by rw [hA5,slot_put _ (by decide)]; exact g4_53
 have g5_54:A5.tmps[54]?=some (.slice (some ⟨g,o,none⟩) n c):=by rw [hA5,slot_put _ (by decide)]; exact g4_54
 have g5_55:A5.tmps[55]?=some (.slice (some ⟨g,o+3,none⟩) 2 (c - 3)):=by rw [hA5,slot_put _ (by decide)]; exact g4_55
 have g5_57:A5.tmps[57]?=some (.slice (some ⟨g,o,none⟩) n c):=by rw [hA5,slot_put _ (by decide)]; exact g4_57
 have g5_58:A5.tmps[58]?=some (.slice (some ⟨g,o+5,none⟩) 4 (c - 5)):=by rw [hA5]; exact slot_same _ (by rw [f4.size,hb]; decide)
 clear hA5
 show wpAnyH Tryz.prog .any ops (NoPanic Q) _ (7+1) #[true,true,true,false,true,true,false,false,false,false,false,false,false] _ _
 refine take_slot h8' rfl rfl hns (tk1 t8) (tk2 t8) (v:=(capV cc)) (fun _ _ _ _ h=>h) (fun W hW=>run_of_loadC (g:=Y) (slot_eval (f5.slot (by decide) s7)) (range_of (by rw [hW.block _ zY (by have:=hY.1; have:=hY.2; omega)]; exact bY))) hdr ?_
 obtain ⟨A6,hA6⟩:∃ Z,Z=A5.put (some 61) (capV cc):=⟨_,rfl⟩
 rw [← hA6]
 have f6:Fr [53,54,55,57,58,61,63,56,59,60,62] b A6:=by rw [hA6]; exact f5.put (by decide) _
 have g6_53:A6.tmps[53]?=some (.int .i64 A):=by rw [hA6,slot_put _ (by decide)]; exact g5_53
 have g6_54:A6.tmps[54]?=some (.slice (some ⟨g,o,none⟩) n c):=by rw [hA6,slot_put _ (by decide)]; exact g5_54
 have g6_55:A6.tmps[55]?=some (.slice (some ⟨g,o+3,none⟩) 2 (c - 3)):=by rw [hA6,slot_put _ (by decide)]; exact g5_55
 have g6_57:A6.tmps[57]?=some (.slice (some ⟨g,o,none⟩) n c):=by rw [hA6,slot_put _ (by decide)]; exact g5_57
 have g6_58:A6.tmps[58]?=some (.slice (some ⟨g,o+5,none⟩) 4 (c - 5)):=by rw [hA6,slot_put _ (by decide)]; exact g5_58
 have g6_61:A6.tmps[61]?=some (capV cc):=by rw [hA6]; exact slot_same _ (by rw [f5.size,hb]; decide)
 clear hA6
 show wpAnyH Tryz.prog .any ops (NoPanic Q) _ (6+1) #[true,true,true,false,true,true,false,false,true,false,false,false,false] _ _
 refine take_slot h10' rfl rfl hns (tk1 t10) (tk2 t10) (v:=(.agg #[.int .i64 0,.int .i64 0,.slice none 0 0])) (fun _ _ _ _ h=>h) (fun W _=>run_of_buildN) hdr ?_
 obtain ⟨A7,hA7⟩:∃ Z,Z=A6.put (some 63) (.agg #[.int .i64 0,.int .i64 0,.slice none 0 0]):=⟨_,rfl⟩
 rw [← hA7]
 have f7:Fr [53,54,55,57,58,61,63,56,59,60,62] b A7:=by rw [hA7]; exact f6.put (by decide) _
 have g7_53:A7.tmps[53]?=some (.int .i64 A):=by rw [hA7,slot_put _ (by decide)]; exact g6_53
 have g7_54:A7.tmps[54]?=some (.slice (some ⟨g,o,none⟩) n c):=by rw [hA7,slot_put _ (by decide)]; exact g6_54
 have g7_55:A7.tmps[55]?=some (.slice (some ⟨g,o+3,none⟩) 2 (c - 3)):=by rw [hA7,slot_put _ (by decide)]; exact g6_55
 have g7_57:A7.tmps[57]?=some (.slice (some ⟨g,o,none⟩) n c):=by rw [hA7,slot_put _ (by decide)]; exact g6_57
 have g7_58:A7.tmps[58]?=some (.slice (some ⟨g,o+5,none⟩) 4 (c - 5)):=by rw [hA7,slot_put _ (by decide)]; exact g6_58
 have g7_61:A7.tmps[61]?=some (capV cc):=by rw [hA7,slot_put _ (by decide)]; exact g6_61
 have g7_63:A7.tmps[63]?=some (.agg #[.int .i64 0,.int .i64 0,.slice none 0 0]):=by rw [hA7]; exact slot_same _ (by rw [f6.size,hb]; decide)
 clear hA7
 show wpAnyH Tryz.prog .any ops (NoPanic Q) _ (5+1) #[true,true,true,false,true,true,false,false,true,false,true,false,false] _ _
 refine wpAnyH_all r3 (by simp) fun i hi=>?_
 obtain rfl:i=3:=by simpa using hi
 refine op_plain h3' rfl (call_numof (.tmp 55) (.slice (some ⟨g,o+3,none⟩) 2 (c - 3)) (slot_eval g7_55) ((k3 _ hdr).mono ?_))
 rintro e w' ⟨rfl,rfl⟩
 refine ⟨_,rfl,hdr,?_⟩
 show wpAnyH Tryz.prog .any ops (NoPanic Q) _ 5 #[true,true,true,true,true,true,false,false,true,false,true,false,false] (A7.put (some 56) (.int .i64 (hh:Int))) _
 obtain ⟨A8,hA8⟩:∃ Z,Z=A7.put (some 56) (.int .i64 (hh:Int)):=⟨_,rfl⟩
 rw [← hA8]
 have f8:Fr [53,54,55,57,58,61,63,56,59,60,62] b A8:=by rw [hA8]; exact f7.put (by decide) _
 have g8_53:A8.tmps[53]?=some (.int .i64 A):=by rw [hA8,slot_put _ (by decide)]; exact g7_53
 have g8_54:A8.tmps[54]?=some (.slice (some ⟨g,o,none⟩) n c):=by rw [hA8,slot_put _ (by decide)]; exact g7_54
 have g8_55:A8.tmps[55]?=some (.slice (some ⟨g,o+3,none⟩) 2 (c - 3)):=by rw [hA8,slot_put _ (by decide)]; exact g7_55
 have g8_57:A8.tmps[57]?=some (.slice (some ⟨g,o,none⟩) n c):=by rw [hA8,slot_put _ (by decide)]; exact g7_57
 have g8_58:A8.tmps[58]?=some (.slice (some ⟨g,o+5,none⟩) 4 (c - 5)):=by rw [hA8,slot_put _ (by decide)]; exact g7_58
 have g8_61:A8.tmps[61]?=some (capV cc):=by rw [hA8,slot_put _ (by decide)]; exact g7_61
 have g8_63:A8.tmps[63]?=some (.agg #[.int .i64 0,.int .i64 0,.slice none 0 0]):=by rw [hA8,slot_put _ (by decide)]; exact g7_63
 have g8_56:A8.tmps[56]?=some (.int .i64 (hh:Int)):=by rw [hA8]; exact slot_same _ (by rw [f7.size,hb]; decide)
 clear hA8
 show wpAnyH Tryz.prog .any ops (NoPanic Q) _ (4+1) #[true,true,true,true,true,true,false,false,true,false,true,false,false] _ _
 refine wpAnyH_all r6 (by simp) fun i hi=>?_
 obtain rfl:i=6:=by simpa using hi
 refine op_plain h6' rfl (call_numof (.tmp 58) (.slice (some ⟨g,o+5,none⟩) 4 (c - 5)) (slot_eval g8_58) ((k6 _ hdr).mono ?_))
 rintro e w' ⟨rfl,rfl⟩
 refine ⟨_,rfl,hdr,?_⟩
 show wpAnyH Tryz.prog .any ops (NoPanic Q) _ 4 #[true,true,true,true,true,true,true,false,true,false,true,false,false] (A8.put (some 59) (.int .i64 (ii:Int))) _
 obtain ⟨A9,hA9⟩:∃ Z,Z=A8.put (some 59) (.int .i64 (ii:Int)):=⟨_,rfl⟩
 rw [← hA9]
 have f9:Fr [53,54,55,57,58,61,63,56,59,60,62] b A9:=by rw [hA9]; exact f8.put (by decide) _
 have g9_53:A9.tmps[53]?=some (.int .i64 A):=by rw [hA9,slot_put _ (by decide)]; exact g8_53
 have g9_54:A9.tmps[54]?=some (.slice (some ⟨g,o,none⟩) n c):=by rw [hA9,slot_put _ (by decide)]; exact g8_54
 have g9_55:A9.tmps[55]?=some (.slice (some ⟨g,o+3,none⟩) 2 (c - 3)):=by rw [hA9,slot_put _ (by decide)]; exact g8_55
 have g9_57:A9.tmps[57]?=some (.slice (some ⟨g,o,none⟩) n c):=by rw [hA9,slot_put _ (by decide)]; exact g8_57
 have g9_58:A9.tmps[58]?=some (.slice (some ⟨g,o+5,none⟩) 4 (c - 5)):=by rw [hA9,slot_put _ (by decide)]; exact g8_58
 have g9_61:A9.tmps[61]?=some (capV cc):=by rw [hA9,slot_put _ (by decide)]; exact g8_61
 have g9_63:A9.tmps[63]?=some (.agg #[.int .i64 0,.int .i64 0,.slice none 0 0]):=by rw [hA9,slot_put _ (by decide)]; exact g8_63
 have g9_56:A9.tmps[56]?=some (.int .i64 (hh:Int)):=by rw [hA9,slot_put _ (by decide)]; exact g8_56
 have g9_59:A9.tmps[59]?=some (.int .i64 (ii:Int)):=by rw [hA9]; exact slot_same _ (by rw [f8.size,hb]; decide)
 clear hA9
 show wpAnyH Tryz.prog .any ops (NoPanic Q) _ (3+1) #[true,true,true,true,true,true,true,false,true,false,true,false,false] _ _
 refine take_slot h7' rfl rfl hns (tk1 t7) (tk2 t7) (v:=(.int .u32 (ii:Int))) (fun _ _ _ _ h=>h) (fun W _=>by
  have q:=slot_eval g9_59
  have i0:(0:Int)≤(ii:Int):=Int.natCast_nonneg _
  have i1:(ii:Int) < 4294967296:=by omega
  unfold execOp
  simp only [q]
  simp [go_sem]
  rw [IntKind.wrap_u32]
  omega) hdr ?_
 obtain ⟨A10,hA10⟩:∃ Z,Z=A9.put (some 60) (.int .u32 (ii:Int)):=⟨_,rfl⟩
 rw [← hA10]
 have f10:Fr [53,54,55,57,58,61,63,56,59,60,62] b A10:=by rw [hA10]; exact f9.put (by decide) _
 have g10_53:A10.tmps[53]?=some (.int .i64 A):=by rw [hA10,slot_put _ (by decide)]; exact g9_53
 have g10_54:A10.tmps[54]?=some (.slice (some ⟨g,o,none⟩) n c):=by rw [hA10,slot_put _ (by decide)]; exact g9_54
 have g10_55:A10.tmps[55]?=some (.slice (some ⟨g,o+3,none⟩) 2 (c - 3)):=by rw [hA10,slot_put _ (by decide)]; exact g9_55
 have g10_57:A10.tmps[57]?=some (.slice (some ⟨g,o,none⟩) n c):=by rw [hA10,slot_put _ (by decide)]; exact g9_57
 have g10_58:A10.tmps[58]?=some (.slice (some ⟨g,o+5,none⟩) 4 (c - 5)):=by rw [hA10,slot_put _ (by decide)]; exact g9_58
 have g10_61:A10.tmps[61]?=some (capV cc):=by rw [hA10,slot_put _ (by decide)]; exact g9_61
 have g10_63:A10.tmps[63]?=some (.agg #[.int .i64 0,.int .i64 0,.slice none 0 0]):=by rw [hA10,slot_put _ (by decide)]; exact g9_63
 have g10_56:A10.tmps[56]?=some (.int .i64 (hh:Int)):=by rw [hA10,slot_put _ (by decide)]; exact g9_56
 have g10_59:A10.tmps[59]?=some (.int .i64 (ii:Int)):=by rw [hA10,slot_put _ (by decide)]; exact g9_59
 have g10_60:A10.tmps[60]?=some (.int .u32 (ii:Int)):=by rw [hA10]; exact slot_same _ (by rw [f9.size,hb]; decide)
 clear hA10
 show wpAnyH Tryz.prog .any ops (NoPanic Q) _ (2+1) #[true,true,true,true,true,true,true,true,true,false,true,false,false] _ _
 refine take_slot h9' rfl rfl hns (tk1 t9) (tk2 t9) (v:=(.agg (openC A hh ii cc))) (fun _ _ _ _ h=>h) (fun W _=>run_of_build4 (slot_eval g10_53) (slot_eval g10_56) (slot_eval g10_60) (slot_eval g10_61)) hdr ?_
 obtain ⟨A11,hA11⟩:∃ Z,Z=A10.put (some 62) (.agg (openC A hh ii cc)):=⟨_,rfl⟩
 rw [← hA11]
 have f11:Fr [53,54,55,57,58,61,63,56,59,60,62] b A11:=by rw [hA11]; exact f10.put (by decide) _
 have g11_53:A11.tmps[53]?=some (.int .i64 A):=by rw [hA11,slot_put _ (by decide)]; exact g10_53
 have g11_54:A11.tmps[54]?=some (.slice (some ⟨g,o,none⟩) n c):=by rw [hA11,slot_put _ (by decide)]; exact g10_54
 have g11_55:A11.tmps[55]?=some (.slice (some ⟨g,o+3,none⟩) 2 (c - 3)):=by rw [hA11,slot_put _ (by decide)]; exact g10_55
 have g11_57:A11.tmps[57]?=some (.slice (some ⟨g,o,none⟩) n c):=by rw [hA11,slot_put _ (by decide)]; exact g10_57
 have g11_58:A11.tmps[58]?=some (.slice (some ⟨g,o+5,none⟩) 4 (c - 5)):=by rw [hA11,slot_put _ (by decide)]; exact g10_58
 have g11_61:A11.tmps[61]?=some (capV cc):=by rw [hA11,slot_put _ (by decide)]; exact g10_61
 have g11_63:A11.tmps[63]?=some (.agg #[.int .i64 0,.int .i64 0,.slice none 0 0]):=by rw [hA11,slot_put _ (by decide)]; exact g10_63
 have g11_56:A11.tmps[56]?=some (.int .i64 (hh:Int)):=by rw [hA11,slot_put _ (by decide)]; exact g10_56
 have g11_59:A11.tmps[59]?=some (.int .i64 (ii:Int)):=by rw [hA11,slot_put _ (by decide)]; exact g10_59
 have g11_60:A11.tmps[60]?=some (.int .u32 (ii:Int)):=by rw [hA11,slot_put _ (by decide)]; exact g10_60
 have g11_62:A11.tmps[62]?=some (.agg (openC A hh ii cc)):=by rw [hA11]; exact slot_same _ (by rw [f10.size,hb]; decide)
 clear hA11
 have v2:A11.tmps[2]?=some (.pointer (some ⟨gO,0,none⟩)):=f11.slot (by decide) s2
 have v3:A11.tmps[3]?=some (.pointer (some ⟨gN,0,none⟩)):=f11.slot (by decide) s3
 have bO':({ w1 with drawn:=w1.drawn+1 } : World).heap[gO]?=some (.cells C0 28 (0,0)):=bO
 have bN':(({ w1 with drawn:=w1.drawn+1 } : World).setCells gO 0 (openC A hh ii cc).toList).heap[gN]?=some (.cells N0 38 (0,0)):=by rw [heap_sets hne]; exact bN
 show wpAnyH Tryz.prog .any ops (NoPanic Q) _ (1+1) #[true,true,true,true,true,true,true,true,true,true,true,false,false] _ _
 refine wpAnyH_all r11 (by simp) fun i hi=>?_
 obtain rfl:i=11:=by simpa using hi
 refine op_plain h11' rfl ?_
 unfold Oper.wp execOp
 simp only [slot_eval v2,slot_eval g11_62,Sem.run_bind,run_storeO bO' hO (OC.made A hh ii cc),Result.andThen_ok,Sem.run_pure]
 refine ⟨hdr.setCells gO 0 _ (.inl (.inl rfl)),?_⟩
 show wpAnyH Tryz.prog .any ops (NoPanic Q) _ (0+1) #[true,true,true,true,true,true,true,true,true,true,true,true,false] A11 _
 refine wpAnyH_all r12 (by simp) fun i hi=>?_
 obtain rfl:i=12:=by simpa using hi
 refine op_plain h12' rfl ?_
 unfold Oper.wp execOp
 simp only [slot_eval v3,slot_eval g11_63,Sem.run_bind,run_storeAt_mid _ gN 0 38 (#[.int .i64 0,.int .i64 0,.slice none 0 0]:Array Value) (there_at bN' _ (by rw [hN]; decide)) infoN (by simp [Value.oneCell']),Result.andThen_ok,Sem.run_pure]
 refine ⟨(hdr.setCells gO 0 _ (.inl (.inl rfl))).setCells gN 0 _ (.inl (.inr rfl)),?_⟩
 show wpAnyH Tryz.prog .any ops (NoPanic Q) _ 0 #[true,true,true,true,true,true,true,true,true,true,true,true,true] A11 _
 exact wpAnyH_done rE (NoPanic.normal (fin _ v2 v3 f11.defers)) _
end
end Go.Proofs.YtogbjeaceboemaaGreatDoor
