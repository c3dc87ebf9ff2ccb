import Derived.Test.YtogbjeaceboemaaGreatDoorPA0
namespace Go.Proofs.YtogbjeaceboemaaGreatDoor
open Go.RowKit
set_option maxRecDepth 100000
def BRd (w:World)(a:Option Addr)(bs:List Nat):Prop:=Rw w a bs.length (fun j=>bs.getD j 0)∧∀ x∈bs,x < 256
theorem BRd.below {w w':World}{a:Option Addr}{bs:List Nat} (h:BRd w a bs) (hb:Below w.heap.size w w'):BRd w' a bs:=⟨h.1.below hb,h.2⟩
theorem append_nil {t e size bytes:Nat}(he:Elem t e size bytes)(w:World)(b:Addr)(n cap c:Nat)(hn:n≤cap) :
  (Builtin.append_ #[t,t] t #[.slice (some b) n cap,.slice none 0 c]).run Tryz.prog w=.ok (.slice (some b) n cap) w:=by
 obtain ⟨i,z,hi,_⟩:=he.info
 have ht:=he.sl
 simp [Builtin.append_,run_underlying ht,sizeOf,typeInfo,hi,hn,Builtin.lenOf,Builtin.firstCells,go_sem,storeCells]
theorem app_brd {w:World}{B g n k:Nat}{ys:List Nat} (zs:List Nat) (a:Option Addr) (c:Nat) (hn:ys.length=n) (ho:w.ownsRow B 5 1 (.slice (some ⟨g,0,none⟩) n k) n (bcells ys)) (hB:B≤w.heap.size) (hl:n+zs.length≤500000) (h:BRd w a zs) :
  ∃ v' w',(Builtin.append_ #[22,22] 22 #[.slice (some ⟨g,0,none⟩) n k,.slice a zs.length c]).run Tryz.prog w=.ok v' w'∧w'.ownsRow B 5 1 v' (ys++zs).length (bcells (ys++zs))∧Below B w w':=by
 have key:∀ ad:Addr,a=some ad→(∀ j x,(bcells zs)[j]?=some x→w.cell? (ad.add j)=some x)→∃ v' w',(Builtin.append_ #[22,22] 22 #[.slice (some ⟨g,0,none⟩) n k,.slice a zs.length c]).run Tryz.prog w=.ok v' w'∧w'.ownsRow B 5 1 v' (ys++zs).length (bcells (ys++zs))∧Below B w w':=by
  intro ad e hc
  subst e
  obtain ⟨v',w',hr,h2,h3,_,_⟩:=app_more elemU8 ho hB ad zs.length c (bcells zs) (by rw [bcells_length]; omega) hc (bcells_one _) (by omega)
  exact ⟨v',w',hr,by rw [bcells_app,List.length_append,hn]; exact h2,h3⟩
 cases a with
 | none =>
  have h0:zs=[]:=by
   cases zs with
   | nil=>rfl
   | cons z r=>obtain ⟨b,off,e,_⟩:=h.1.2 (by simp); cases e
  subst h0
  have hk:n≤k:=by
   rcases ho.2 with ⟨e,_⟩ | ⟨g',cap,cur,e,_,_,h1,_⟩
   ·cases e
   ·simp only [Value.slice.injEq] at e
    obtain ⟨_,_,rfl⟩:=e
    exact h1
  exact ⟨_,w,append_nil elemU8 w _ n k c hk,by rw [List.append_nil,hn]; exact ho,Below.refl _ _⟩
 | some ad =>
  cases zs with
  | nil=>exact key ad rfl (fun j x hx=>by simp [bcells] at hx)
  | cons y r =>
   obtain ⟨b,off,e,hc⟩:=h.1.2 (by simp)
   refine key ad rfl (fun j x hx=>?_)
   cases e
   have hj:j < (y :: r).length:=by have:=(List.getElem?_eq_some_iff.1 hx).1; rwa [bcells_length] at this
   have h5:=hc j hj
   rw [Addr.add_mid,h5]
   have h6:(bcells (y :: r))[j]?=some (.int .u8 (((y :: r).getD j 0:Nat):Int)):=by
    simp only [bcells,List.getElem?_map,List.getElem?_eq_getElem hj,Option.map_some,List.getD_eq_getElem?_getD,Option.getD_some]
   rw [h6] at hx
   exact hx
theorem own_brd {w:World}{B:Nat}{v:Value}{bs:List Nat} (h:w.ownsRow B 5 1 v bs.length (bcells bs)) (hl:bs.length≤500000) (hb:∀ x∈bs,x < 256):∃ a c,v=.slice a bs.length c∧bs.length≤c∧BRd w a bs:=by
 have hh:=h
 rcases h.2 with ⟨rfl,h0⟩ | ⟨g,cap,cur,rfl,_,_,hc,_⟩
 ·exact ⟨none,0,by rw [h0],by omega,by rw [h0]; exact Rw.nil _ _ _,hb⟩
 ·refine ⟨_,_,rfl,hc,⟨by unfold maxLen; omega,fun _=>⟨g,0,rfl,fun i hi=>?_⟩⟩,hb⟩
  rw [Nat.zero_add,hh.cellAt i (by omega)]
  simp [bcells,List.getD_eq_getElem?_getD,hi]
theorem own_base {w:World}{B B' e size n:Nat}{v:Value}{xs:List Value} (h:w.ownsRow B e size v n xs) (hB:B'≤B):w.ownsRow B' e size v n xs:=by
 refine ⟨h.1,?_⟩
 rcases h.2 with hh | ⟨g,cap,cur,e1,hg,rest⟩
 ·exact .inl hh
 ·exact .inr ⟨g,cap,cur,e1,by omega,rest⟩
theorem own_grown {w w':World}{B e size n:Nat}{v:Value}{xs:List Value}{row:Option Nat} (h:w.ownsRow B e size v n xs) (hg:w.grownBy w' row) (hne:∀ b,v.ownBlock=some b→row≠some b):w'.ownsRow B e size v n xs:=by
 refine ⟨h.1,?_⟩
 rcases h.2 with hh | ⟨g,cap,cur,e1,hb,hc,rest⟩
 ·exact .inl hh
 ·refine .inr ⟨g,cap,cur,e1,hb,?_,rest⟩
  rw [hg.block g (Array.getElem?_eq_some_iff.1 hc).1 (fun e=>hne g (by rw [e1]; rfl) e.symm)]
  exact hc
theorem own_apart {w:World}{B B' e e' size size' n n':Nat}{v v':Value}{xs xs':List Value} (h:w.ownsRow B e size v n xs) (h':w.ownsRow B' e' size' v' n' xs') (hne:e≠e') (b:Nat) (hb:v.ownBlock=some b):v'.ownBlock≠some b:=by
 intro hb'
 rcases h.2 with ⟨rfl,_⟩ | ⟨g,cap,cur,rfl,_,hc,_⟩
 ·simp [Value.ownBlock] at hb
 ·rcases h'.2 with ⟨rfl,_⟩ | ⟨g',cap',cur',rfl,_,hc',_⟩
  ·simp [Value.ownBlock] at hb'
  ·simp [Value.ownBlock] at hb hb'
   subst hb hb'
   rw [hc] at hc'
   simp at hc'
   exact hne hc'.2
theorem Tryz.infoPfx:(Tryz.prog.info? 96).map (fun i=>(i.zero,i.size,i.bytes))=some (some (.agg #[.int .u32 0,.int .i64 0]),2,16):=by kernel_rfl
theorem elemPfx:Elem 29 96 2 16:=by
 obtain ⟨i,h1,h2,h3,h4⟩:=info_parts Tryz.infoPfx
 exact ⟨Tryz.underlying29,⟨i,_,h1,h2,h3,h4,rfl⟩,by omega,by omega⟩
def pcells:List (Nat×Nat)→List Value
 | []=>[]
 | p :: r=>.int .u32 (p.1:Int) :: .int .i64 (p.2:Int) :: pcells r
theorem pcells_snoc (l:List (Nat×Nat))(p:Nat×Nat):pcells (l++[p])=pcells l++[.int .u32 (p.1:Int),.int .i64 (p.2:Int)]:=by
 induction l with
 | nil=>rfl
 | cons a l ih=>simp only [List.cons_append,pcells,ih]
theorem Tryz.infoInt:(Tryz.prog.info? 3).map (fun i=>(i.zero,i.size,i.bytes))=some (some (.int .i64 0),1,8):=by kernel_rfl
theorem elemInt:Elem 88 3 1 8:=by
 obtain ⟨i,h1,h2,h3,h4⟩:=info_parts Tryz.infoInt
 exact ⟨Tryz.underlying88,⟨i,_,h1,h2,h3,h4,rfl⟩,by omega,by omega⟩
def icells (l:List Int):List Value:=l.map fun z=>Value.int .i64 z
theorem icells_app (l r:List Int):icells (l++r)=icells l++icells r:=by simp [icells]
theorem icells_one (l:List Int):∀ u∈icells l,u.oneCell'=true:=by
 intro u hu
 obtain ⟨i,_,rfl⟩:=List.mem_map.1 hu
 rfl
theorem icells_length (l:List Int):(icells l).length=l.length:=by simp [icells]
theorem icells_get (l:List Int)(j:Nat)(z:Int)(h:l[j]?=some z):(icells l)[j]?=some (.int .i64 z):=by simp [icells,h]
def segV (b:Bool)(a:Option Addr)(n c:Nat):Value:=.agg #[.bool b,.slice a n c]
set_option maxHeartbeats 400000 in
theorem shiftOf_any (i:Nat)(w:World)(hi:i < 4):Calls Tryz.prog 167 #[.int .i64 (i:Int)] w fun e w'=>e=.returned (.int .i64 ((8 * (3 - i):Nat):Int))∧w'=w:=by
 go_enter Tryz.func167,Tryz.ntmps167
 go_wp2
 go_ret
 exact ⟨ret_int (by omega),rfl⟩
set_option maxHeartbeats 400000 in
theorem fromTo1_any (b:Bool)(a:Option Addr)(n c:Nat)(lo hi:Int)(x y:Nat)(w:World)(hx:w.cell? ⟨x,0,none⟩=some (.int .i64 lo))(hy:w.cell? ⟨y,0,none⟩=some (.int .i64 hi)) :
  Calls Tryz.prog 164 #[segV b a n c,.pointer (some ⟨x,0,none⟩),.pointer (some ⟨y,0,none⟩)] w fun e w'=>e=.returned (.bool (decide (lo≤(n:Int)∧(n:Int)≤hi)))∧Below w.heap.size w w':=by
 have zx:=World.block_lt_of_cell? w _ hx
 have zy:=World.block_lt_of_cell? w _ hy
 simp only at zx zy
 unfold segV
 by_cases h:lo≤(n:Int)
 ·have HD:Hid (decide (lo≤(n:Int)∧(n:Int)≤hi)=decide ((n:Int)≤hi)):=by show decide _=_; rw [Bool.eq_iff_iff]; simp [h]
  go_enter Tryz.func164,Tryz.ntmps164
  go_wp2
  go_ret
  exact ⟨ret_bool HD.out.symm,(Below.refl _ _).alloc (Nat.le_refl _) _⟩
 ·have HD:Hid (decide (lo≤(n:Int)∧(n:Int)≤hi)=false):=by show decide _=_; exact decide_eq_false (fun h9=>h h9.1)
  have h2:decide (lo≤(n:Int))=false:=decide_eq_false h
  clear h
  go_enter Tryz.func164,Tryz.ntmps164
  go_wp2
  go_ret
  exact ⟨ret_bool HD.out.symm,(Below.refl _ _).alloc (Nat.le_refl _) _⟩
set_option maxHeartbeats 800000 in
theorem nums1_some (sb:Bool)(b2 o2 n c:Nat)(zs:List Int)(x y:Nat)(w:World)(hn:zs.length=n)(hl:n≤100000)(hx:w.cell? ⟨x,0,none⟩=some (.int .i64 1))(hy:w.cell? ⟨y,0,none⟩=some (.int .i64 4294967295))(hc:∀ j z,zs[j]?=some z→w.cell? ⟨b2,o2+j,none⟩=some (.int .i64 z)) :
  Calls Tryz.prog 165 #[segV sb (some ⟨b2,o2,none⟩) n c,.pointer (some ⟨x,0,none⟩),.pointer (some ⟨y,0,none⟩)] w fun e w'=>e=.returned (.bool (zs.all okN))∧Below w.heap.size w w':=by
 have zx:=World.block_lt_of_cell? w _ hx
 have zy:=World.block_lt_of_cell? w _ hy
 simp only at zx zy
 have HC:=hide hc
 have HN:=hide hn
 clear hc hn
 unfold segV
 go_enter Tryz.func165,Tryz.ntmps165
 go_wp2
 go_loop [10] (fun i=>∃ q:Nat,q≤n∧i=.int .i64 q∧Hid ((zs.take q).all okN=true)) (fun i=>n - (intOf i).toNat)
 case atStart=>exact ⟨0,Nat.zero_le _,rfl,rfl⟩
 case round =>
  obtain ⟨q,hq,rfl,HQ⟩:=hrel
  by_cases hlq:q < n
  ·have hqp:q < zs.length:=by rw [HN.out]; exact hlq
   have cz:=HC.out q zs[q] (List.getElem?_eq_getElem hqp)
   have zz:=World.block_lt_of_cell? w _ cz
   simp only at zz
   have HTQ:Hid ((zs.take (q+1)).all okN=((zs.take q).all okN && okN zs[q])):=by show (zs.take (q+1)).all _=_; rw [List.take_succ_eq_append_getElem hqp]; simp only [List.all_append,List.all_cons,List.all_nil,Bool.and_true]
   have HZ:Hid (okN zs[q]=false→zs.all okN=false):=fun h=>by
    show zs.all okN=false
    rw [Bool.eq_false_iff]
    intro hh
    rw [List.all_eq_true.1 hh _ (List.getElem_mem hqp)] at h
    cases h
   generalize zs[q]=z at *
   have hq0:(0:Int)≤(q:Int):=Int.natCast_nonneg _
   have hq1:(q:Int) < (n:Int):=by omega
   by_cases hz1:z < 1
   ·have HG:Hid (zs.all okN=false):=HZ.out (decide_eq_false (by omega))
    go_wp2
    go_ret
    exact ⟨ret_bool HG.out.symm,(Below.refl _ _).alloc (Nat.le_refl _) _⟩
   ·by_cases hz2:4294967295 < z
    ·have HG:Hid (zs.all okN=false):=HZ.out (decide_eq_false (by omega))
     have j1:decide (z < 1)=false:=decide_eq_false hz1
     go_wp2
     go_ret
     exact ⟨ret_bool HG.out.symm,(Below.refl _ _).alloc (Nat.le_refl _) _⟩
    ·have j1:decide (z < 1)=false:=decide_eq_false hz1
     have j2:decide (4294967295 < z)=false:=decide_eq_false hz2
     have HQ2:Hid ((zs.take (q+1)).all okN=true):=by
      show (zs.take (q+1)).all okN=true
      rw [HTQ.out,HQ.out,show okN z=true from decide_eq_true (by omega)]; rfl
     clear hz1 hz2
     go_wp2
     exact ⟨⟨q+1,by omega,by go_num,HQ2⟩,by simp [intOf]; omega⟩
  ·go_wp2
   go_ret
   exact ⟨ret_bool (by rw [← HQ.out,List.take_of_length_le (by rw [HN.out]; omega)]),(Below.refl _ _).alloc (Nat.le_refl _) _⟩
set_option maxHeartbeats 400000 in
theorem nums1_none (sb:Bool)(a:Option Addr)(c:Nat)(x y:Nat)(w:World) :
  Calls Tryz.prog 165 #[segV sb a 0 c,.pointer (some ⟨x,0,none⟩),.pointer (some ⟨y,0,none⟩)] w fun e w'=>e=.returned (.bool true)∧Below w.heap.size w w':=by
 unfold segV
 go_enter Tryz.func165,Tryz.ntmps165
 go_wp2
 go_loop [10] (fun i=>i=.int .i64 0) (fun i=>0 - (intOf i).toNat)
 case atStart=>exact rfl
 case round =>
  obtain rfl:=hrel
  go_wp2
  go_ret
  exact ⟨rfl,(Below.refl _ _).alloc (Nat.le_refl _) _⟩
theorem nums1_any (sb:Bool)(a:Option Addr)(c:Nat)(zs:List Int)(x y:Nat)(w:World)(hl:zs.length≤100000)(hx:w.cell? ⟨x,0,none⟩=some (.int .i64 1))(hy:w.cell? ⟨y,0,none⟩=some (.int .i64 4294967295))(hr:IRd w a zs) :
  Calls Tryz.prog 165 #[segV sb a zs.length c,.pointer (some ⟨x,0,none⟩),.pointer (some ⟨y,0,none⟩)] w fun e w'=>e=.returned (.bool (zs.all okN))∧Below w.heap.size w w':=by
 cases zs with
 | nil=>exact nums1_none sb a c x y w
 | cons z r =>
  obtain ⟨b2,o2,rfl,hc⟩:=hr (by simp)
  exact nums1_some sb b2 o2 _ c _ x y w rfl hl hx hy hc
set_option maxHeartbeats 800000 in
theorem tog1_any (sb:Bool)(a:Option Addr)(n c k C M:Nat)(w:World)(hn:n≤100000)(hk:k≤100000)(hC:w.cell? ⟨C,0,none⟩=some (.int .i64 (k:Int)))(hz:w.frozen? ⟨C,0,none⟩=false)(hM:w.cell? ⟨M,0,none⟩=some (.int .i64 64))(hne:M≠C) :
  Calls Tryz.prog 166 #[segV sb a n c,.pointer (some ⟨C,0,none⟩),.pointer (some ⟨M,0,none⟩)] w fun e w'=>e=.returned (.bool (decide (k+n≤64)))∧Keeps (fun b=>b=C) w w'∧w'.cell? ⟨C,0,none⟩=some (.int .i64 ((k+n:Nat):Int))∧w'.frozen? ⟨C,0,none⟩=false:=by
 have zC:=World.block_lt_of_cell? w _ hC
 have zM:=World.block_lt_of_cell? w _ hM
 simp only at zC zM
 unfold segV
 go_enter Tryz.func166,Tryz.ntmps166
 go_wp2
 go_ret
 refine ⟨ret_bool (by rw [Bool.eq_iff_iff]; simp; omega),((Keeps.refl (fun b=>b=C) w).setCell C _ _ (.inl rfl)).alloc _,?_,?_⟩
 ·rw [World.cell?_alloc_lt _ _ _ (by simpa using zC),World.cell?_setCell_same _ _ _ hC]; simp
 ·simp [go_sem,zC,hz]
def allUp (rb:Nat→Bool):Nat→Bool
 | 0=>true
 | n+1=>allUp rb n && rb n
theorem allUp_false (rb:Nat→Bool)(k:Nat)(h:rb k=false):∀ n,k < n→allUp rb n=false
 | 0,hk=>absurd hk (by omega)
 | n+1,hk=>by
  by_cases e:k=n
  ·subst e; simp [allUp,h]
  ·simp [allUp,allUp_false rb k h n (by omega)]
set_option maxHeartbeats 800000 in
theorem meets_inv (b o n c:Nat)(sb:Bool)(sa:Option Addr)(sn sc:Nat)(fs:Nat→Nat)(caps:Nat→Array Value)(rb:Nat→Bool)(Inv:Nat→World→Prop)(F:Nat→Prop)(w:World)(hn:n≤3)
  (hF:∀ k,F k→k < w.heap.size) (hb:¬ F b)
  (hcell:∀ i,i < n→w.cell? ⟨b,o+i,none⟩=some (.func (.func (fs i)) #[] (caps i)))
  (hent:∀ i,i < n→∀ args w,(callFunc (fs i) args).run Tryz.prog w=.ok (.enter (fs i) args) w)
  (hst:∀ k w1 w2,Inv k w1→Below w1.heap.size w1 w2→Inv k w2) (h0:Inv 0 w)
  (hcall:∀ i,i < n→∀ w1,Keeps F w w1→Inv i w1→Calls Tryz.prog (fs i) (#[segV sb sa sn sc]++caps i) w1 fun e w2=>e=.returned (.bool (rb i))∧Keeps F w1 w2∧Inv (i+1) w2) :
  Calls Tryz.prog 160 #[segV sb sa sn sc,.slice (some ⟨b,o,none⟩) n c] w fun e w'=>e=.returned (.bool (allUp rb n))∧Keeps F w w'∧(allUp rb n=true→Inv n w'):=by
 have HC:=hide hcell
 have HE:=hide hent
 have HK:=hide hcall
 have HFF:=hide hF
 have HI0:=hide (hst 0 w (w.alloc (.cells #[.bool sb,.slice sa sn sc] 136)) h0 ((Below.refl _ _).alloc (Nat.le_refl _) _))
 clear hcell hcall hent hF hst h0
 unfold segV
 go_enter Tryz.func160,Tryz.ntmps160
 go_wp2
 go_loopw [9] (fun i wq=>∃ k:Nat,k≤n∧i=.int .i64 k∧Hid (allUp rb k=true)∧Hid (Keeps F w wq)∧Hid (Inv k wq)∧w.heap.size < wq.heap.size∧wq.cell? ⟨w.heap.size,0,none⟩=some (.bool sb)∧wq.cell? ⟨w.heap.size,1,none⟩=some (.slice sa sn sc)) (fun i _=>n - (intOf i).toNat)
 case atStart=>exact ⟨0,Nat.zero_le _,rfl,rfl,(Keeps.refl _ _).alloc _,HI0,by simp,by simp [go_sem],by simp [go_sem]⟩
 case round =>
  obtain ⟨k,hk,rfl,HA,HB,HI,hz,c0,c1⟩:=hrel
  by_cases hlt:k < n
  ·have ck:wr.cell? ⟨b,o+k,none⟩=some (.func (.func (fs k)) #[] (caps k)):=by
    rw [HB.out.cell _ (World.block_lt_of_cell? w _ (HC.out k hlt)) hb]
    exact HC.out k hlt
   have ek:=HE.out k hlt
   have hk0:(0:Int)≤(k:Int):=Int.natCast_nonneg _
   have hk1:(k:Int) < (n:Int):=by omega
   go_wp2_with fail
   refine (HK.out k hlt wr HB.out HI.out).mono ?_
   rintro e w2 ⟨rfl,hb2,hi2⟩
   have hnF:¬ F w.heap.size:=fun h=>absurd (HFF.out _ h) (by omega)
   have d0:w2.cell? ⟨w.heap.size,0,none⟩=some (.bool sb):=by rw [hb2.cell ⟨w.heap.size,0,none⟩ hz hnF]; exact c0
   have d1:w2.cell? ⟨w.heap.size,1,none⟩=some (.slice sa sn sc):=by rw [hb2.cell ⟨w.heap.size,1,none⟩ hz hnF]; exact c1
   have HB2:Hid (Keeps F w w2):=HB.out.trans hb2 (fun _ _ h=>h)
   have HI2:=hide hi2
   have hz2:w.heap.size < w2.heap.size:=Nat.lt_of_lt_of_le hz hb2.size
   clear hb2 c0 c1 ck ek hi2
   cases hr:rb k with
   | true =>
    have HR:=hide hr
    clear hr
    go_wp2
    exact ⟨⟨k+1,by omega,by go_num,show allUp rb (k+1)=true by simp [allUp,HA.out,HR.out],HB2,HI2,hz2,d0,d1⟩,by simp [intOf]; omega⟩
   | false =>
    have HR:=hide hr
    clear hr
    go_wp2
    go_ret
    have hfa:=allUp_false rb k HR.out n hlt
    exact ⟨ret_bool hfa.symm,HB2.out,fun h=>by rw [hfa] at h; cases h⟩
  ·have hkn:k=n:=by omega
   subst hkn
   go_wp2
   go_ret
   exact ⟨ret_bool HA.out.symm,HB.out,fun _=>HI.out⟩
structure Chk (w:World) (B x:Nat):Prop where
 l1:w.cell? ⟨B,0,none⟩=some (.int .i64 1)
 m1:w.cell? ⟨B+1,0,none⟩=some (.int .i64 255)
 l2:w.cell? ⟨B+2,0,none⟩=some (.int .i64 1)
 m2:w.cell? ⟨B+3,0,none⟩=some (.int .i64 4294967295)
 m3:w.cell? ⟨B+4,0,none⟩=some (.int .i64 64)
 ct:w.cell? ⟨B+5,0,none⟩=some (.int .i64 (x:Int))
 fz:w.frozen? ⟨B+5,0,none⟩=false
 f1:w.cell? ⟨B+6,0,none⟩=some (.func (.func 164) #[] #[.pointer (some ⟨B,0,none⟩),.pointer (some ⟨B+1,0,none⟩)])
 f2:w.cell? ⟨B+7,0,none⟩=some (.func (.func 165) #[] #[.pointer (some ⟨B+2,0,none⟩),.pointer (some ⟨B+3,0,none⟩)])
 f3:w.cell? ⟨B+8,0,none⟩=some (.func (.func 166) #[] #[.pointer (some ⟨B+5,0,none⟩),.pointer (some ⟨B+4,0,none⟩)])
theorem Chk.size {w:World}{B x:Nat} (h:Chk w B x):B+8 < w.heap.size:=by
 have:=World.block_lt_of_cell? w _ h.f3
 simpa using this
theorem Chk.keeps {w w':World}{B x:Nat}{F:Nat→Prop} (h:Chk w B x) (hk:Keeps F w w') (hF:∀ k,F k→k=B+5) (x':Nat) (hc:w'.cell? ⟨B+5,0,none⟩=some (.int .i64 (x':Int))) (hz:w'.frozen? ⟨B+5,0,none⟩=false):Chk w' B x':=by
 have hs:=h.size
 have key:∀ k,k≤8→k≠5→w'.cell? ⟨B+k,0,none⟩=w.cell? ⟨B+k,0,none⟩:=fun k hk8 hne=>hk.cell ⟨B+k,0,none⟩ (by show B+k < _; omega) (fun h9=>by have:=hF _ h9; simp only at this; omega)
 exact ⟨by rw [← h.l1]; exact key 0 (by omega) (by omega),by rw [← h.m1]; exact key 1 (by omega) (by omega),by rw [← h.l2]; exact key 2 (by omega) (by omega),by rw [← h.m2]; exact key 3 (by omega) (by omega),by rw [← h.m3]; exact key 4 (by omega) (by omega),hc,hz,
  by rw [← h.f1]; exact key 6 (by omega) (by omega),by rw [← h.f2]; exact key 7 (by omega) (by omega),by rw [← h.f3]; exact key 8 (by omega) (by omega)⟩
theorem Chk.later {w w':World}{B x:Nat} (h:Chk w B x) (hb:Below w.heap.size w w'):Chk w' B x :=
 h.keeps (Keeps.of_below hb (fun _=>False)) (fun _ h=>h.elim) x (by rw [hb.cell (p:=⟨B+5,0,none⟩) (by have:=h.size; show B+5 < _; omega)]; exact h.ct) (by rw [hb.frozen (p:=⟨B+5,0,none⟩) (by have:=h.size; show B+5 < _; omega)]; exact h.fz)
set_option maxHeartbeats 400000 in
theorem fromTo_any (lo hi:Int)(w:World):Calls Tryz.prog 156 #[.int .i64 lo,.int .i64 hi] w fun e w'=>e=.returned (.func (.func 164) #[] #[.pointer (some ⟨w.heap.size,0,none⟩),.pointer (some ⟨w.heap.size+1,0,none⟩)])∧w'=(w.alloc (.cells #[.int .i64 lo] 3)).alloc (.cells #[.int .i64 hi] 3):=by
 go_enter Tryz.func156,Tryz.ntmps156
 go_wp2
 go_ret
 exact ⟨rfl,rfl⟩
set_option maxHeartbeats 400000 in
theorem numsFT_any (lo hi:Int)(w:World):Calls Tryz.prog 157 #[.int .i64 lo,.int .i64 hi] w fun e w'=>e=.returned (.func (.func 165) #[] #[.pointer (some ⟨w.heap.size,0,none⟩),.pointer (some ⟨w.heap.size+1,0,none⟩)])∧w'=(w.alloc (.cells #[.int .i64 lo] 3)).alloc (.cells #[.int .i64 hi] 3):=by
 go_enter Tryz.func157,Tryz.ntmps157
 go_wp2
 go_ret
 exact ⟨rfl,rfl⟩
set_option maxHeartbeats 400000 in
theorem tog_any (m:Int)(w:World):Calls Tryz.prog 158 #[.int .i64 m] w fun e w'=>e=.returned (.func (.func 166) #[] #[.pointer (some ⟨w.heap.size+1,0,none⟩),.pointer (some ⟨w.heap.size,0,none⟩)])∧w'=(w.alloc (.cells #[.int .i64 m] 3)).alloc (.cells #[.int .i64 0] 3):=by
 go_enter Tryz.func158,Tryz.ntmps158
 go_wp2
 go_ret
 exact ⟨rfl,rfl⟩
theorem run_store_func (P:Program)(w:World)(a:Addr)(m:Mode)(f:Fn)(ts:Array Value)(cs:Array Value):(store a (.func f ts cs) m).run P w=stored P w a (.func f ts cs) m:=run_store P w a _ m rfl
attribute [local go_sem] run_store_func
def chkV (B:Nat):Value:=.func (.func 159) #[] #[.pointer (some ⟨B+6,0,none⟩),.pointer (some ⟨B+7,0,none⟩),.pointer (some ⟨B+8,0,none⟩)]
theorem cell_new (w:World)(c:Array Value)(t:TypeId)(B i:Nat)(h:B=w.heap.size):(w.alloc (.cells c t)).cell? ⟨B,i,none⟩=c[i]?:=by subst h; exact World.cell?_alloc_mark w c t _ i
theorem cell_old (w:World)(o:Obj)(B i:Nat)(h:B < w.heap.size):(w.alloc o).cell? ⟨B,i,none⟩=w.cell? ⟨B,i,none⟩:=World.cell?_alloc_lt _ _ _ h
def chkW (w:World):World:=((((((((w.alloc (.cells #[.int .i64 1] 3)).alloc (.cells #[.int .i64 255] 3)).alloc (.cells #[.int .i64 1] 3)).alloc (.cells #[.int .i64 4294967295] 3)).alloc (.cells #[.int .i64 64] 3)).alloc (.cells #[.int .i64 0] 3)).alloc (.cells #[.func (.func 164) #[] #[.pointer (some ⟨w.heap.size,0,none⟩),.pointer (some ⟨w.heap.size+1,0,none⟩)]] 182)).alloc (.cells #[.func (.func 165) #[] #[.pointer (some ⟨w.heap.size+2,0,none⟩),.pointer (some ⟨w.heap.size+3,0,none⟩)]] 182)).alloc (.cells #[.func (.func 166) #[] #[.pointer (some ⟨w.heap.size+5,0,none⟩),.pointer (some ⟨w.heap.size+4,0,none⟩)]] 182)
theorem chk_made (w:World):Chk (chkW w) w.heap.size 0∧Below w.heap.size w (chkW w):=by
 unfold chkW
 refine ⟨⟨?_,?_,?_,?_,?_,?_,?_,?_,?_,?_⟩,?_⟩
 case refine_11=>exact (((((((((Below.refl _ _).alloc (Nat.le_refl _) _).alloc (by simp) _).alloc (by simp; omega) _).alloc (by simp; omega) _).alloc (by simp; omega) _).alloc (by simp; omega) _).alloc (by simp; omega) _).alloc (by simp; omega) _).alloc (by simp; omega) _
 case refine_7 =>
  repeat rw [World.frozen?_alloc_past _ _ _ (by simp only [World.size_alloc]; omega)]
  rw [World.frozen?_alloc_at _ _ _ _ (by simp only [World.size_alloc])]
 all_goals (repeat rw [cell_old _ _ _ _ (by simp only [World.size_alloc]; omega)])
 all_goals (rw [cell_new _ _ _ _ _ (by first | rfl | (simp only [World.size_alloc]; done) | (simp only [World.size_alloc]; omega))]; rfl)
set_option maxHeartbeats 1600000 in
theorem gob_any (w:World):Calls Tryz.prog 144 #[] w fun e w'=>e=.returned (chkV w.heap.size)∧Chk w' w.heap.size 0∧Below w.heap.size w w':=by
 go_enter Tryz.func144,Tryz.ntmps144
 go_wp2_with fail
 refine (fromTo_any 1 255 _).mono ?_
 rintro e w1 ⟨rfl,rfl⟩
 go_wp2_with fail
 refine (numsFT_any 1 4294967295 _).mono ?_
 rintro e w1 ⟨rfl,rfl⟩
 go_wp2_with fail
 refine (tog_any 64 _).mono ?_
 rintro e w1 ⟨rfl,rfl⟩
 obtain ⟨w3,hw3⟩:∃ w3,w3=((((((w.alloc (.cells #[.int .i64 1] 3)).alloc (.cells #[.int .i64 255] 3)).alloc (.cells #[.int .i64 1] 3)).alloc (.cells #[.int .i64 4294967295] 3)).alloc (.cells #[.int .i64 64] 3)).alloc (.cells #[.int .i64 0] 3)):=⟨_,rfl⟩
 rw [← hw3]
 have HS3:Hid (w3.heap.size=w.heap.size+6):=by show w3.heap.size=_; rw [hw3]; simp
 have HW:=hide hw3
 clear hw3
 go_wp2
 go_ret
 have h9:=chk_made w
 unfold chkW at h9
 rw [← HW.out] at h9
 exact ⟨by unfold chkV; rw [← show w3.heap.size=w.heap.size+6 from HS3.out,show w.heap.size+7=w3.heap.size+1 from by have:=HS3.out; omega,show w.heap.size+8=w3.heap.size+1+1 from by have:=HS3.out; omega]; rfl,h9⟩
theorem okS_two (b:Bool)(zs:List Int):okS (b,zs)=(decide ((1:Int)≤(zs.length:Int)∧(zs.length:Int)≤255) && zs.all okN):=by
 unfold okS
 congr 1
 rw [Bool.eq_iff_iff]
 simp only [decide_eq_true_eq]
 omega
set_option maxHeartbeats 800000 in
theorem check_any (sb:Bool)(a:Option Addr)(c:Nat)(zs:List Int)(B x:Nat)(w:World)(hl:zs.length≤100000)(hx:x≤100000)(h:Chk w B x)(hr:IRd w a zs) :
  Calls Tryz.prog 159 #[segV sb a zs.length c,.pointer (some ⟨B+6,0,none⟩),.pointer (some ⟨B+7,0,none⟩),.pointer (some ⟨B+8,0,none⟩)] w fun e w' =>
   e=.returned (.bool (okS (sb,zs) && decide (x+zs.length≤64)))∧Keeps (fun b=>b=B+5) w w'∧((okS (sb,zs) && decide (x+zs.length≤64))=true→Chk w' B (x+zs.length)):=by
 have hs:=h.size
 have g1:=h.f1
 have g2:=h.f2
 have g3:=h.f3
 have HH:=hide h
 have HR:=hide hr
 clear h hr
 have HO:=hide (okS_two sb zs)
 have hb7:B+7 < w.heap.size:=by omega
 have hb6:B+6 < w.heap.size:=by omega
 have key:∀ w1:World,Below w.heap.size w w1→∀ b':Nat,w.heap.size≤b'→(∀ i,i < 3→w1.cell? ⟨b',0+i,none⟩=some (.func (.func (if i=0 then 164 else if i=1 then 165 else 166)) #[] (if i=0 then #[.pointer (some ⟨B,0,none⟩),.pointer (some ⟨B+1,0,none⟩)] else if i=1 then #[.pointer (some ⟨B+2,0,none⟩),.pointer (some ⟨B+3,0,none⟩)] else #[.pointer (some ⟨B+5,0,none⟩),.pointer (some ⟨B+4,0,none⟩)]))) →
   Calls Tryz.prog 160 #[segV sb a zs.length c,.slice (some ⟨b',0,none⟩) 3 3] w1 fun e w'=>e=.returned (.bool (okS (sb,zs) && decide (x+zs.length≤64)))∧Keeps (fun b=>b=B+5) w1 w'∧((okS (sb,zs) && decide (x+zs.length≤64))=true→Chk w' B (x+zs.length)):=by
  intro w1 hb1 b' hbb hc
  have hchk:Chk w1 B x:=HH.out.later hb1
  have hird:IRd w1 a zs:=HR.out.below hb1
  have hsz:=hb1.size
  refine (meets_inv b' 0 3 3 sb a zs.length c (fun i=>if i=0 then 164 else if i=1 then 165 else 166) (fun i=>if i=0 then #[.pointer (some ⟨B,0,none⟩),.pointer (some ⟨B+1,0,none⟩)] else if i=1 then #[.pointer (some ⟨B+2,0,none⟩),.pointer (some ⟨B+3,0,none⟩)] else #[.pointer (some ⟨B+5,0,none⟩),.pointer (some ⟨B+4,0,none⟩)])
   (fun i=>if i=0 then decide ((1:Int)≤(zs.length:Int)∧(zs.length:Int)≤255) else if i=1 then zs.all okN else decide (x+zs.length≤64)) (fun i w2=>Chk w2 B (if i≤2 then x else x+zs.length)∧(i≤2→IRd w2 a zs)) (fun b=>b=B+5) w1 (by omega) (fun k hk=>by omega) (by omega) hc (fun i hi=>?_) (fun k u1 u2 hu hb=>⟨hu.1.later hb,fun h9=>(hu.2 h9).below hb⟩) ⟨hchk,fun _=>hird⟩ (fun i hi u1 _ hu=>?_)).mono ?_
  ·match i,hi with
   | 0,_=>exact Tryz.call164
   | 1,_=>exact Tryz.call165
   | 2,_=>exact Tryz.call166
  ·match i,hi with
   | 0,_ =>
    refine (fromTo1_any sb a zs.length c 1 255 B (B+1) u1 hu.1.l1 hu.1.m1).mono ?_
    rintro e w2 ⟨rfl,hb⟩
    exact ⟨rfl,Keeps.of_below hb _,hu.1.later hb,fun _=>(hu.2 (by omega)).below hb⟩
   | 1,_ =>
    refine (nums1_any sb a c zs (B+2) (B+3) u1 hl hu.1.l2 hu.1.m2 (hu.2 (by omega))).mono ?_
    rintro e w2 ⟨rfl,hb⟩
    exact ⟨rfl,Keeps.of_below hb _,hu.1.later hb,fun _=>(hu.2 (by omega)).below hb⟩
   | 2,_ =>
    refine (tog1_any sb a zs.length c x (B+5) (B+4) u1 hl hx hu.1.ct hu.1.fz hu.1.m3 (by omega)).mono ?_
    rintro e w2 ⟨rfl,hk2,hc2,hz2⟩
    exact ⟨rfl,hk2,hu.1.keeps hk2 (fun _ h=>h) _ hc2 hz2,fun h9=>absurd h9 (by omega)⟩
  ·rintro e w2 ⟨rfl,hk,hi⟩
   have e3:allUp (fun i=>if i=0 then decide ((1:Int)≤(zs.length:Int)∧(zs.length:Int)≤255) else if i=1 then zs.all okN else decide (x+zs.length≤64)) 3=(okS (sb,zs) && decide (x+zs.length≤64)):=by
    rw [HO.out]; simp [allUp]
   rw [e3] at hi ⊢
   exact ⟨rfl,hk,fun h9=>(hi h9).1⟩
 have HKEY:=hide key
 clear key HH HR HO
 generalize hbb:(okS (sb,zs) && decide (x+zs.length≤64))=r at *
 clear hbb
 generalize hnn:zs.length=n at *
 clear hnn
 unfold segV
 go_enter Tryz.func159,Tryz.ntmps159
 go_wp2_with fail
 refine (HKEY.out ((w.alloc (.cells #[.bool sb,.slice a n c] 136)).alloc (.cells #[.func (.func 164) #[] #[.pointer (some ⟨B,0,none⟩),.pointer (some ⟨B+1,0,none⟩)],.func (.func 165) #[] #[.pointer (some ⟨B+2,0,none⟩),.pointer (some ⟨B+3,0,none⟩)],.func (.func 166) #[] #[.pointer (some ⟨B+5,0,none⟩),.pointer (some ⟨B+4,0,none⟩)]] 182)) (((Below.refl _ _).alloc (Nat.le_refl _) _).alloc (by simp) _) (w.heap.size+1) (by omega) ?_).mono ?_
 ·intro i hi
  rw [cell_new _ _ _ _ _ (by simp)]
  match i,hi with
  | 0,_=>rfl
  | 1,_=>rfl
  | 2,_=>rfl
 rintro e w2 ⟨rfl,hk,hi⟩
 have HK:=hide hk
 have HI:=hide hi
 clear hk hi HKEY
 go_wp2
 go_ret
 exact ⟨rfl,(((Keeps.refl _ _).alloc _).alloc _).trans HK.out (fun _ _ h=>h),HI.out⟩
theorem Tryz.infoByteS:(Tryz.prog.info? 22).map (fun i=>(i.zero,i.size,i.bytes))=some (some (.slice none 0 0),1,24):=by kernel_rfl
theorem elemBytes:Elem 89 22 1 24:=by
 obtain ⟨i,h1,h2,h3,h4⟩:=info_parts Tryz.infoByteS
 exact ⟨Tryz.underlying89,⟨i,_,h1,h2,h3,h4,rfl⟩,by omega,by omega⟩
theorem app_i {W:World}{B:Nat}{t v:Value}{n m:Nat}{ts:List Int}{cs:List Value} (ht:W.ownsRow B 3 1 t n (icells ts)) (hv:W.ownsRow B 22 1 v m cs) (hB:B≤W.heap.size) (hl:n≤20000) (g:Nat) (z:Int) (hc:W.cell? ⟨g,0,none⟩=some (.int .i64 z)) :
  ∃ t' W',(Builtin.append_ #[88,88] 88 #[t,.slice (some ⟨g,0,none⟩) 1 1]).run Tryz.prog W=.ok t' W'∧W'.ownsRow B 3 1 t' (n+1) (icells (ts++[z]))∧W'.ownsRow B 22 1 v m cs∧Below B W W'∧∀ X,X < W.heap.size→t.ownBlock≠some X→W'.heap[X]?=W.heap[X]?:=by
 obtain ⟨t',W',hr,h2,h3,h4,_⟩:=app_more elemInt ht hB ⟨g,0,none⟩ 1 1 (icells [z]) rfl (fun j u hu=>by
  match j,hu with
  | 0,hu=>simp [icells] at hu; subst hu; simpa [Addr.add] using hc
  | j+1,hu=>simp [icells] at hu) (icells_one _) (by omega)
 exact ⟨t',W',hr,by rw [icells_app]; exact h2,own_grown hv h4 (fun b hb=>own_apart hv ht (by decide) b hb),h3,fun X hX hne=>h4.block X hX (Ne.symm hne)⟩
theorem app_s {W:World}{B:Nat}{t v:Value}{n m:Nat}{ts:List Int}{cs:List Value} (ht:W.ownsRow B 3 1 t n (icells ts)) (hv:W.ownsRow B 22 1 v m cs) (hB:B≤W.heap.size) (hl:m≤20000) (g:Nat) (a:Option Addr) (l c:Nat) (hc:W.cell? ⟨g,0,none⟩=some (.slice a l c)) :
  ∃ v' W',(Builtin.append_ #[89,89] 89 #[v,.slice (some ⟨g,0,none⟩) 1 1]).run Tryz.prog W=.ok v' W'∧W'.ownsRow B 3 1 t n (icells ts)∧W'.ownsRow B 22 1 v' (m+1) (cs++[.slice a l c])∧Below B W W'∧∀ X,X < W.heap.size→v.ownBlock≠some X→W'.heap[X]?=W.heap[X]?:=by
 obtain ⟨v',W',hr,h2,h3,h4,_⟩:=app_more elemBytes hv hB ⟨g,0,none⟩ 1 1 [.slice a l c] rfl (fun j u hu=>by
  match j,hu with
  | 0,hu=>simp at hu; subst hu; simpa [Addr.add] using hc
  | j+1,hu=>simp at hu) (fun u hu=>by simp at hu; subst hu; rfl) (by omega)
 exact ⟨v',W',hr,own_grown ht h4 (fun b hb=>own_apart ht hv (by decide) b hb),h2,h3,fun X hX hne=>h4.block X hX (Ne.symm hne)⟩
def End2 (B:Nat)(w1 w2:World)(t v:Value)(n:Nat)(ts:List Int)(cs:List Value):Prop:=w2.ownsRow B 3 1 t n (icells ts)∧w2.ownsRow B 22 1 v n cs∧Below B w1 w2
section
variable {w:World}{B:Nat}{t v:Value}{n:Nat}{ts:List Int}{cs:List Value}
theorem six_1 (ht:w.ownsRow B 3 1 t n (icells ts))(hv:w.ownsRow B 22 1 v n cs)(hB:B≤w.heap.size)(hl:n≤10000)(z:Int)(a:Option Addr)(l c:Nat) :
  ∃ t1 w1,(Builtin.append_ #[88,88] 88 #[t,.slice (some ⟨w.heap.size,0,none⟩) 1 1]).run Tryz.prog (w.alloc (.cells #[.int .i64 z] 3)).drew=.ok t1 w1∧Below B w w1 ∧
   ∃ v1 w2,(Builtin.append_ #[89,89] 89 #[v,.slice (some ⟨w1.heap.size,0,none⟩) 1 1]).run Tryz.prog (w1.alloc (.cells #[.slice a l c] 22))=.ok v1 w2∧End2 B w w2 t1 v1 (n+1) (ts++[z]) (cs++[.slice a l c]):=by
 have hb0:Below B w (w.alloc (.cells #[.int .i64 z] 3)).drew:=((Below.refl _ _).alloc hB _).drew
 obtain ⟨t1,w1,h1,h2,h3,h4,_⟩:=app_i ((ht.alloc (.cells #[.int .i64 z] 3)).drew) ((hv.alloc _).drew) (Nat.le_trans hB hb0.size) (by omega) w.heap.size z (by rw [World.cell?_drew,World.cell?_alloc_mark]; rfl)
 have hB1:B≤w1.heap.size:=Nat.le_trans (Nat.le_trans hB hb0.size) h4.size
 have hb1:Below B w1 (w1.alloc (.cells #[.slice a l c] 22)):=(Below.refl _ _).alloc hB1 _
 obtain ⟨v1,w2,k1,k2,k3,k4,_⟩:=app_s (h2.alloc (.cells #[.slice a l c] 22)) (h3.alloc _) (Nat.le_trans hB1 hb1.size) (by omega) w1.heap.size a l c (by rw [World.cell?_alloc_mark]; rfl)
 exact ⟨t1,w1,h1,hb0.trans h4,v1,w2,k1,k2,k3,(hb0.trans h4).trans (hb1.trans k4)⟩
theorem six_in {W:World}{gi gs:Nat} (ht:W.ownsRow B 3 1 t n (icells ts)) (hv:W.ownsRow B 22 1 v n cs) (hB:B≤W.heap.size) (hbW:Below B w W) (hl:n≤10000) (z:Int) (a:Option Addr) (l c:Nat) (hi:W.cell? ⟨gi,0,none⟩=some (.int .i64 z)) (hs:W.cell? ⟨gs,0,none⟩=some (.slice a l c)) (nt:t.ownBlock≠some gs) (nv:v.ownBlock≠some gi) :
  (∃ t1 w1,(Builtin.append_ #[88,88] 88 #[t,.slice (some ⟨gi,0,none⟩) 1 1]).run Tryz.prog W=.ok t1 w1∧Below B w w1 ∧
   ∃ v1 w2,(Builtin.append_ #[89,89] 89 #[v,.slice (some ⟨gs,0,none⟩) 1 1]).run Tryz.prog w1=.ok v1 w2∧End2 B w w2 t1 v1 (n+1) (ts++[z]) (cs++[.slice a l c])) ∧
  (∃ v1 w1,(Builtin.append_ #[89,89] 89 #[v,.slice (some ⟨gs,0,none⟩) 1 1]).run Tryz.prog W=.ok v1 w1∧Below B w w1 ∧
   ∃ t1 w2,(Builtin.append_ #[88,88] 88 #[t,.slice (some ⟨gi,0,none⟩) 1 1]).run Tryz.prog w1=.ok t1 w2∧End2 B w w2 t1 v1 (n+1) (ts++[z]) (cs++[.slice a l c])):=by
 have li:=World.block_lt_of_cell? W _ hi
 have ls:=World.block_lt_of_cell? W _ hs
 constructor
 ·obtain ⟨t1,w1,h1,h2,h3,h4,h5⟩:=app_i ht hv hB (by omega) gi z hi
  obtain ⟨v1,w2,k1,k2,k3,k4,_⟩:=app_s h2 h3 (Nat.le_trans hB h4.size) (by omega) gs a l c (by rw [World.cell?_of_block (w:=W) (h5 gs ls nt)]; exact hs)
  exact ⟨t1,w1,h1,hbW.trans h4,v1,w2,k1,k2,k3,hbW.trans (h4.trans k4)⟩
 ·obtain ⟨v1,w1,h1,h2,h3,h4,h5⟩:=app_s ht hv hB (by omega) gs a l c hs
  obtain ⟨t1,w2,k1,k2,k3,k4,_⟩:=app_i h2 h3 (Nat.le_trans hB h4.size) (by omega) gi z (by rw [World.cell?_of_block (w:=W) (h5 gi li nv)]; exact hi)
  exact ⟨v1,w1,h1,hbW.trans h4,t1,w2,k1,k2,k3,hbW.trans (h4.trans k4)⟩
theorem six_23 (ht:w.ownsRow B 3 1 t n (icells ts))(hv:w.ownsRow B 22 1 v n cs)(hB:B≤w.heap.size)(hl:n≤10000)(z:Int)(a:Option Addr)(l c:Nat) :
  (∃ t1 w1,(Builtin.append_ #[88,88] 88 #[t,.slice (some ⟨w.heap.size,0,none⟩) 1 1]).run Tryz.prog ((w.alloc (.cells #[.int .i64 z] 3)).alloc (.cells #[.slice a l c] 22)).drew=.ok t1 w1∧Below B w w1 ∧
   ∃ v1 w2,(Builtin.append_ #[89,89] 89 #[v,.slice (some ⟨w.heap.size+1,0,none⟩) 1 1]).run Tryz.prog w1=.ok v1 w2∧End2 B w w2 t1 v1 (n+1) (ts++[z]) (cs++[.slice a l c])) ∧
  (∃ v1 w1,(Builtin.append_ #[89,89] 89 #[v,.slice (some ⟨w.heap.size+1,0,none⟩) 1 1]).run Tryz.prog ((w.alloc (.cells #[.int .i64 z] 3)).alloc (.cells #[.slice a l c] 22)).drew=.ok v1 w1∧Below B w w1 ∧
   ∃ t1 w2,(Builtin.append_ #[88,88] 88 #[t,.slice (some ⟨w.heap.size,0,none⟩) 1 1]).run Tryz.prog w1=.ok t1 w2∧End2 B w w2 t1 v1 (n+1) (ts++[z]) (cs++[.slice a l c])):=by
 have hb0:Below B w ((w.alloc (.cells #[.int .i64 z] 3)).alloc (.cells #[.slice a l c] 22)).drew:=(((Below.refl _ _).alloc hB _).alloc (by simp; omega) _).drew
 have e1:=World.cell?_alloc_mark (w.alloc (.cells #[.int .i64 z] 3)) #[.slice a l c] 22 (0,0) 0
 simp only [World.size_alloc] at e1
 refine six_in ((ht.alloc _).alloc _).drew ((hv.alloc _).alloc _).drew (Nat.le_trans hB hb0.size) hb0 hl z a l c ?_ ?_ (fun e=>by have:=(own_block ht _ e).2; omega) (fun e=>by have:=(own_block hv _ e).2; omega)
 ·rw [World.cell?_drew,World.cell?_alloc_lt _ _ _ (by simp),World.cell?_alloc_mark]; rfl
 ·rw [World.cell?_drew,e1]; rfl
theorem six_45 (ht:w.ownsRow B 3 1 t n (icells ts))(hv:w.ownsRow B 22 1 v n cs)(hB:B≤w.heap.size)(hl:n≤10000)(z:Int)(a:Option Addr)(l c:Nat) :
  (∃ t1 w1,(Builtin.append_ #[88,88] 88 #[t,.slice (some ⟨w.heap.size+1,0,none⟩) 1 1]).run Tryz.prog ((w.alloc (.cells #[.slice a l c] 22)).alloc (.cells #[.int .i64 z] 3)).drew=.ok t1 w1∧Below B w w1 ∧
   ∃ v1 w2,(Builtin.append_ #[89,89] 89 #[v,.slice (some ⟨w.heap.size,0,none⟩) 1 1]).run Tryz.prog w1=.ok v1 w2∧End2 B w w2 t1 v1 (n+1) (ts++[z]) (cs++[.slice a l c])) ∧
  (∃ v1 w1,(Builtin.append_ #[89,89] 89 #[v,.slice (some ⟨w.heap.size,0,none⟩) 1 1]).run Tryz.prog ((w.alloc (.cells #[.slice a l c] 22)).alloc (.cells #[.int .i64 z] 3)).drew=.ok v1 w1∧Below B w w1 ∧
   ∃ t1 w2,(Builtin.append_ #[88,88] 88 #[t,.slice (some ⟨w.heap.size+1,0,none⟩) 1 1]).run Tryz.prog w1=.ok t1 w2∧End2 B w w2 t1 v1 (n+1) (ts++[z]) (cs++[.slice a l c])):=by
 have hb0:Below B w ((w.alloc (.cells #[.slice a l c] 22)).alloc (.cells #[.int .i64 z] 3)).drew:=(((Below.refl _ _).alloc hB _).alloc (by simp; omega) _).drew
 have e1:=World.cell?_alloc_mark (w.alloc (.cells #[.slice a l c] 22)) #[.int .i64 z] 3 (0,0) 0
 simp only [World.size_alloc] at e1
 refine six_in ((ht.alloc _).alloc _).drew ((hv.alloc _).alloc _).drew (Nat.le_trans hB hb0.size) hb0 hl z a l c ?_ ?_ (fun e=>by have:=(own_block ht _ e).2; omega) (fun e=>by have:=(own_block hv _ e).2; omega)
 ·rw [World.cell?_drew,e1]; rfl
 ·rw [World.cell?_drew,World.cell?_alloc_lt _ _ _ (by simp),World.cell?_alloc_mark]; rfl
end
end Go.Proofs.YtogbjeaceboemaaGreatDoor
