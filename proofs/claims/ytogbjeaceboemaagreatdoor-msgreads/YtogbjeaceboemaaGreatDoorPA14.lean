import Derived.Test.YtogbjeaceboemaaGreatDoorPA6
namespace Go.Proofs.YtogbjeaceboemaaGreatDoor
open Go.RowKit
set_option maxRecDepth 100000
theorem note_box (c s:Nat)(a:Option Addr)(cap n:Nat)(d:List Nat)(W:World)(X:Nat)(hn:d.length=n)(hl:n≤50000)(h:BRd W a d)(hX:NtBox W X) :
  Calls Tryz.prog 27 #[.int .i64 (c:Int),.int .i64 (s:Int),.slice a n cap] W fun e w'=>∃ a9 c9,e=.returned (.agg #[.int .i64 (c:Int),.int .i64 (s:Int),.slice a9 n c9])∧Hid (w'.ownsRow W.heap.size 5 1 (.slice a9 n c9) n (bcells d))∧Hid (Below W.heap.size W w')∧Hid (NtBox w' X):=by
 subst hn
 refine (note_any c s a cap d W (by omega) h).mono ?_
 rintro e w' ⟨a9,c9,rfl,ho,hb⟩
 exact ⟨a9,c9,rfl,ho,hb,hX.below hb hX.1⟩
set_option maxHeartbeats 800000 in
theorem rhead_short (a:Option Addr)(c n:Nat)(w:World)(h:n < 19) :
  Calls Tryz.prog 20 #[.slice a n c] w fun e w'=>HdIs w w' e (0,0,0,[])∧Below w.heap.size w w':=by
 go_enter Tryz.func20,Tryz.ntmps20
 go_wp2_with fail
 refine bodyPost_ret (v:=.tuple #[.int .i64 0,.agg #[.int .i64 0,.int .i64 0,.slice none 0 0]]) (by simp [results,Tryz.results20,go_sem]) rfl ⟨⟨_,rfl,none,0,rfl,own_nil _ _ _ _⟩,?_⟩
 exact (Below.refl _ _).alloc (Nat.le_refl _) _
theorem below_set3 {w W:World}{X:Nat}{u0 u1 u2:Value} (h:Below X w W):Below X w (((W.setCell ⟨X,0,none⟩ u0).setCell ⟨X,1,none⟩ u1).setCell ⟨X,2,none⟩ u2) :=
 ((h.setCell (p:=⟨X,0,none⟩) (Nat.le_refl _) u0).setCell (p:=⟨X,1,none⟩) (Nat.le_refl _) u1).setCell (p:=⟨X,2,none⟩) (Nat.le_refl _) u2
theorem own_put3 {W:World}{B X n:Nat}{v u0 u1 u2:Value}{xs:List Value} (h:W.ownsRow B 5 1 v n xs) (hX:X < B):(((W.setCell ⟨X,0,none⟩ u0).setCell ⟨X,1,none⟩ u1).setCell ⟨X,2,none⟩ u2).ownsRow B 5 1 v n xs :=
 own_under (own_under (own_under h hX 0 u0) hX 1 u1) hX 2 u2
set_option maxHeartbeats 4000000 in
theorem rhead_rest (b o c n:Nat)(bs:List Nat)(w:World)(hn:bs.length=n)(h19:19≤n)(hl:n≤100000)(hcap:n≤c)(h:BRd w (some ⟨b,o,none⟩) bs) :
  Calls Tryz.prog 20 #[.slice (some ⟨b,o,none⟩) n c] w fun e w'=>HdIs w w' e (headM bs)∧Below w.heap.size w w':=by
 obtain ⟨b',o',e9,hc⟩:=h.1.2 (by omega)
 cases e9
 have HC:Hid (∀ i,i < n→w.cell? ⟨b,o+i,none⟩=some (.int .u8 (bs.getD i 0:Int))):=fun i hi=>hc i (by omega)
 have c16:=HC.out 16 (by omega)
 have c17:=HC.out 17 (by omega)
 have c18:=HC.out 18 (by omega)
 have zb:=World.block_lt_of_cell? w _ c18
 simp only at zb
 have hlen2:((bs.drop 16).take 2).length=2:=by rw [List.length_take,List.length_drop]; omega
 have hlen1:((bs.drop 18).take 1).length=1:=by rw [List.length_take,List.length_drop]; omega
 obtain ⟨w1,hw1⟩:∃ w1,w1=w.alloc (.cells #[.int .i64 0,.int .i64 0,.slice none 0 0] 38):=⟨_,rfl⟩
 have hb1:Below w.heap.size w w1:=by rw [hw1]; exact (Below.refl _ _).alloc (Nat.le_refl _) _
 have hs1:w1.heap.size=w.heap.size+1:=by rw [hw1]; simp
 have hx1:NtBox w1 w.heap.size:=by rw [hw1]; exact NtBox.made w
 have br2:BRd w (some ⟨b,o+16,none⟩) ((bs.drop 16).take 2):=brd_from h 16 2 (by omega)
 have br1:BRd w (some ⟨b,o+18,none⟩) ((bs.drop 18).take 1):=brd_from h 18 1 (by omega)
 have hbm:∀ m,Below w.heap.size w (w1.drewN m):=fun m=>below_drewN hb1 m
 have hxm:∀ m,NtBox (w1.drewN m) w.heap.size:=fun m=>hx1.below (B:=w.heap.size+1) ⟨rfl,rfl,rfl,Nat.le_refl _,fun _ _=>rfl⟩ (by omega)
 have HN0:Hid (∀ m,Calls Tryz.prog 27 #[.int .i64 1,.int .i64 1,.slice none 0 0] (w1.drewN m) fun e w2=>∃ a9 c9,e=.returned (.agg #[.int .i64 1,.int .i64 1,.slice a9 0 c9])∧Hid (w2.ownsRow (w.heap.size+1) 5 1 (.slice a9 0 c9) 0 (bcells []))∧Hid (Below w.heap.size w w2)∧Hid (NtBox w2 w.heap.size)):=fun m=>by
  refine (note_box 1 1 none 0 0 [] _ w.heap.size rfl (by omega) (brd_none _ _) (hxm m)).mono ?_
  rintro e w2 ⟨a9,c9,rfl,ho,hb3,hx⟩
  have hsz:(w1.drewN m).heap.size=w.heap.size+1:=hs1
  rw [hsz] at ho hb3
  exact ⟨a9,c9,rfl,ho,(hbm m).trans (hb3.out.mono (by omega)),hx⟩
 have HN2:Hid (∀ m,Calls Tryz.prog 27 #[.int .i64 1,.int .i64 2,.slice (some ⟨b,o+16,none⟩) 2 (c - 16)] (w1.drewN m) fun e w2=>∃ a9 c9,e=.returned (.agg #[.int .i64 1,.int .i64 2,.slice a9 2 c9])∧Hid (w2.ownsRow (w.heap.size+1) 5 1 (.slice a9 2 c9) 2 (bcells ((bs.drop 16).take 2)))∧Hid (Below w.heap.size w w2)∧Hid (NtBox w2 w.heap.size)):=fun m=>by
  refine (note_box 1 2 (some ⟨b,o+16,none⟩) (c - 16) 2 ((bs.drop 16).take 2) _ w.heap.size hlen2 (by omega) (br2.below (hbm m)) (hxm m)).mono ?_
  rintro e w2 ⟨a9,c9,rfl,ho,hb3,hx⟩
  have hsz:(w1.drewN m).heap.size=w.heap.size+1:=hs1
  rw [hsz] at ho hb3
  exact ⟨a9,c9,rfl,ho,(hbm m).trans (hb3.out.mono (by omega)),hx⟩
 have HN3:Hid (∀ m,Calls Tryz.prog 27 #[.int .i64 1,.int .i64 3,.slice (some ⟨b,o+18,none⟩) 1 (c - 18)] (w1.drewN m) fun e w2=>∃ a9 c9,e=.returned (.agg #[.int .i64 1,.int .i64 3,.slice a9 1 c9])∧Hid (w2.ownsRow (w.heap.size+1) 5 1 (.slice a9 1 c9) 1 (bcells ((bs.drop 18).take 1)))∧Hid (Below w.heap.size w w2)∧Hid (NtBox w2 w.heap.size)):=fun m=>by
  refine (note_box 1 3 (some ⟨b,o+18,none⟩) (c - 18) 1 ((bs.drop 18).take 1) _ w.heap.size hlen1 (by omega) (br1.below (hbm m)) (hxm m)).mono ?_
  rintro e w2 ⟨a9,c9,rfl,ho,hb3,hx⟩
  have hsz:(w1.drewN m).heap.size=w.heap.size+1:=hs1
  rw [hsz] at ho hb3
  exact ⟨a9,c9,rfl,ho,(hbm m).trans (hb3.out.mono (by omega)),hx⟩
 have HCW:Hid (∀ i,i < n→w1.cell? ⟨b,o+i,none⟩=some (.int .u8 (bs.getD i 0:Int))):=fun i hi=>by
  rw [hb1.cell (p:=⟨b,o+i,none⟩) zb]; exact HC.out i hi
 have d16:=HCW.out 16 (by omega)
 have d17:=HCW.out 17 (by omega)
 have d18:=HCW.out 18 (by omega)
 have zb1:b < w1.heap.size:=by omega
 have hk:bs.getD 18 0 < 256:=getD_lt256 h.2 18
 have hs16:bs.getD 16 0 < 256:=getD_lt256 h.2 16
 have hs17:bs.getD 17 0 < 256:=getD_lt256 h.2 17
 have HLT:Hid (∀ i,bs.getD i 0 < 256):=fun i=>getD_lt256 h.2 i
 have HMk:Hid (∀ k,k < 16→bs.getD k 0≠255→headM bs=(0,1,1,[])):=fun k hk1 hk2=>headM_mark (by omega) (fun e=>hk2 (by
  have:=congrArg (fun l=>l.getD k 0) e
  simp only [List.getD_eq_getElem?_getD] at this ⊢
  rw [List.getElem?_take_of_lt hk1,List.getElem?_replicate,if_pos hk1] at this
  exact this))
 have HM:Hid (∀ P:Prop,(bs.take 16=List.replicate 16 255→P)→(bs.take 16=List.replicate 16 255)→P):=fun P f h=>f h
 have HM2:Hid (bs.take 16=List.replicate 16 255→(256 * bs.getD 16 0+bs.getD 17 0 < 19∨4096 < 256 * bs.getD 16 0+bs.getD 17 0)→headM bs=(0,1,2,(bs.drop 16).take 2)):=fun hm h2=>headM_size (by omega) (fun x=>x hm) h2
 have HM3:Hid (bs.take 16=List.replicate 16 255→¬ (256 * bs.getD 16 0+bs.getD 17 0 < 19∨4096 < 256 * bs.getD 16 0+bs.getD 17 0)→(bs.getD 18 0 < 1∨4 < bs.getD 18 0)→headM bs=(0,1,3,(bs.drop 18).take 1)):=fun hm h2 h3=>headM_kind (by omega) (fun x=>x hm) h2 h3
 have HM4:Hid (bs.take 16=List.replicate 16 255→¬ (256 * bs.getD 16 0+bs.getD 17 0 < 19∨4096 < 256 * bs.getD 16 0+bs.getD 17 0)→¬ (bs.getD 18 0 < 1∨4 < bs.getD 18 0)→(256 * bs.getD 16 0+bs.getD 17 0 < leastOf (bs.getD 18 0)∨mostOf (bs.getD 18 0) < 256 * bs.getD 16 0+bs.getD 17 0)→headM bs=(0,1,2,(bs.drop 16).take 2)):=fun hm h2 h3 h4=>headM_said (by omega) (fun x=>x hm) h2 h3 h4
 have HM5:Hid (bs.take 16=List.replicate 16 255→¬ (256 * bs.getD 16 0+bs.getD 17 0 < 19∨4096 < 256 * bs.getD 16 0+bs.getD 17 0)→¬ (bs.getD 18 0 < 1∨4 < bs.getD 18 0)→¬ (256 * bs.getD 16 0+bs.getD 17 0 < leastOf (bs.getD 18 0)∨mostOf (bs.getD 18 0) < 256 * bs.getD 16 0+bs.getD 17 0)→headM bs=(256 * bs.getD 16 0+bs.getD 17 0,0,0,[])):=fun hm h2 h3 h4=>headM_good (by omega) (fun x=>x hm) h2 h3 h4
 have HTK:Hid (∀ k,k < 16→bs.getD k 0=255→bs.take k=List.replicate k 255→bs.take (k+1)=List.replicate (k+1) 255):=fun k hk1 hk2 hk3=>by
  have hkl:k < bs.length:=by omega
  rw [List.take_succ_eq_append_getElem hkl,hk3,List.replicate_succ']
  rw [List.getD_eq_getElem?_getD,List.getElem?_eq_getElem hkl] at hk2
  simp at hk2
  rw [hk2]
 have HX1:=hide hx1
 have HL1:=hide hlen1
 have HL2:=hide hlen2
 have HNn:=hide hn
 have HB1:=hide hb1
 have HS1:=hide hs1
 clear hc h hlen1 hlen2 br2 br1 hbm hxm hn HC c16 c17 c18 HM hb1 hx1
 go_enter Tryz.func20,Tryz.ntmps20
 go_wp2_with fail
 rw [← hw1]
 clear hw1
 go_loop [4] (fun i=>∃ k:Nat,k≤16∧i=.int .i64 k∧Hid (bs.take k=List.replicate k 255)) (fun i=>16 - (intOf i).toNat)
 case atStart=>exact ⟨0,by omega,rfl,rfl⟩
 case round =>
  obtain ⟨k,hk16,rfl,HT⟩:=hrel
  by_cases hlt:k < 16
  ·have ck:=HCW.out k (by omega)
   have hx:=HLT.out k
   have HTn:=hide (HTK.out k hlt)
   have HMn:=hide (HMk.out k hlt)
   generalize bs.getD k 0=x at *
   have hk0:(0:Int)≤(k:Int):=Int.natCast_nonneg _
   have hk1:(k:Int) < (n:Int):=by omega
   have hk2:(k:Int) < 16:=by omega
   by_cases h255:x=255
   ·subst h255
    have HT2:=hide (HTn.out rfl HT.out)
    clear HTn HMn HT HM2 HM3 HM4 HM5
    go_wp2
    exact ⟨⟨k+1,by omega,by go_num,HT2⟩,by simp [intOf]; omega⟩
   ·have HR:=hide (HMn.out h255)
    have hne:((x:Int) != 255)=true:=by simp; omega
    clear HTn HMn HT HM2 HM3 HM4 HM5
    go_wp2_with fail
    refine (HN0.out 0).mono ?_
    rintro e w2 ⟨a9,c9,rfl,HO,HB,HX⟩
    obtain ⟨hz,r0,r1,r2,f0,f1,f2⟩:=HX.out
    go_wp2_with fail
    refine bodyPost_ret (v:=.tuple #[.int .i64 0,.agg #[.int .i64 1,.int .i64 1,.slice a9 0 c9]]) (by simp [results,Tryz.results20,go_sem,r0,r1,r2]) rfl ⟨?_,below_set3 HB.out⟩
    rw [HR.out]
    exact ⟨_,rfl,a9,c9,rfl,own_low (own_put3 HO.out (by omega)) (by omega)⟩
  ·obtain rfl:k=16:=by omega
   have HT16:=HT
   clear HT HTK HMk
   have H2:=hide (HM2.out HT16.out)
   have H3:=hide (HM3.out HT16.out)
   have H4:=hide (HM4.out HT16.out)
   have H5:=hide (HM5.out HT16.out)
   clear HM2 HM3 HM4 HM5 HN0 HLT HCW
   generalize bs.getD 16 0=p at *
   generalize bs.getD 17 0=q at *
   generalize bs.getD 18 0=kd at *
   go_wp2_with fail
   go_quiet (fail)
   obtain ⟨sz,hsz⟩:∃ sz,sz=256 * p+q:=⟨_,rfl⟩
   have hszi:(256 * (p:Int)+(q:Int))=(sz:Int):=by omega
   have hszl:sz < 65536:=by omega
   rw [← hsz] at H2 H3 H4 H5
   rw [hszi]
   clear hsz hszi d16 d17 hs16 hs17 d18
   obtain ⟨hz,r0,r1,r2,f0,f1,f2⟩:=HX1.out
   by_cases h2:sz < 19∨4096 < sz
   ·have HR:=hide (H2.out h2)
    clear H2 H3 H4 H5
    have h2b:((sz:Int) < 19)∨(¬ ((sz:Int) < 19)∧(4096 < (sz:Int))):=by omega
    clear h2
    rcases h2b with h2 | ⟨h2,h2'⟩
    ·go_wp2_with fail
     refine (HN2.out nq).mono ?_
     rintro e w2 ⟨a9,c9,rfl,HO,HB,HX⟩
     obtain ⟨hz,r0,r1,r2,f0,f1,f2⟩:=HX.out
     go_wp2_with fail
     refine bodyPost_ret (v:=.tuple #[.int .i64 0,.agg #[.int .i64 1,.int .i64 2,.slice a9 2 c9]]) (by simp [results,Tryz.results20,go_sem,r0,r1,r2]) rfl ⟨?_,below_set3 HB.out⟩
     rw [HR.out]
     refine ⟨_,rfl,a9,c9,?_,?_⟩
     ·simp only [HL2.out]; rfl
     ·simp only [HL2.out]; exact own_low (own_put3 HO.out (by omega)) (by omega)
    ·go_wp2_with fail
     refine (HN2.out nq).mono ?_
     rintro e w2 ⟨a9,c9,rfl,HO,HB,HX⟩
     obtain ⟨hz,r0,r1,r2,f0,f1,f2⟩:=HX.out
     go_wp2_with fail
     refine bodyPost_ret (v:=.tuple #[.int .i64 0,.agg #[.int .i64 1,.int .i64 2,.slice a9 2 c9]]) (by simp [results,Tryz.results20,go_sem,r0,r1,r2]) rfl ⟨?_,below_set3 HB.out⟩
     rw [HR.out]
     refine ⟨_,rfl,a9,c9,?_,?_⟩
     ·simp only [HL2.out]; rfl
     ·simp only [HL2.out]; exact own_low (own_put3 HO.out (by omega)) (by omega)
   ·have hn1:¬ ((sz:Int) < 19):=by omega
    have hn2:¬ ((4096:Int) < (sz:Int)):=by omega
    have H3:=hide (H3.out h2)
    have H4:=hide (H4.out h2)
    have H5:=hide (H5.out h2)
    by_cases h3:kd < 1∨4 < kd
    ·have HR:=hide (H3.out h3)
     clear H2 H3 H4 H5
     have h3b:((kd:Int) < 1)∨(¬ ((kd:Int) < 1)∧(4 < (kd:Int))):=by omega
     clear h3
     rcases h3b with h3 | ⟨h3,h3'⟩
     ·go_wp2_with fail
      refine (HN3.out nq).mono ?_
      rintro e w2 ⟨a9,c9,rfl,HO,HB,HX⟩
      obtain ⟨hz,r0,r1,r2,f0,f1,f2⟩:=HX.out
      go_wp2_with fail
      refine bodyPost_ret (v:=.tuple #[.int .i64 0,.agg #[.int .i64 1,.int .i64 3,.slice a9 1 c9]]) (by simp [results,Tryz.results20,go_sem,r0,r1,r2]) rfl ⟨?_,below_set3 HB.out⟩
      rw [HR.out]
      refine ⟨_,rfl,a9,c9,?_,?_⟩
      ·simp only [HL1.out]; rfl
      ·simp only [HL1.out]; exact own_low (own_put3 HO.out (by omega)) (by omega)
     ·go_wp2_with fail
      refine (HN3.out nq).mono ?_
      rintro e w2 ⟨a9,c9,rfl,HO,HB,HX⟩
      obtain ⟨hz,r0,r1,r2,f0,f1,f2⟩:=HX.out
      go_wp2_with fail
      refine bodyPost_ret (v:=.tuple #[.int .i64 0,.agg #[.int .i64 1,.int .i64 3,.slice a9 1 c9]]) (by simp [results,Tryz.results20,go_sem,r0,r1,r2]) rfl ⟨?_,below_set3 HB.out⟩
      rw [HR.out]
      refine ⟨_,rfl,a9,c9,?_,?_⟩
      ·simp only [HL1.out]; rfl
      ·simp only [HL1.out]; exact own_low (own_put3 HO.out (by omega)) (by omega)
    have H4:=hide (H4.out h3)
    have H5:=hide (H5.out h3)
    have hkd:kd=1∨kd=2∨kd=3∨kd=4:=by omega
    clear H2 H3
    rcases hkd with rfl | rfl | rfl | rfl
    ·by_cases h4:sz < 29
     ·have HR:=hide (H4.out (.inl h4))
      have h4i:(sz:Int) < 29:=by omega
      clear H4 H5
      go_wp2_with fail
      refine (HN2.out nq).mono ?_
      rintro e w2 ⟨a9,c9,rfl,HO,HB,HX⟩
      obtain ⟨hz,r0,r1,r2,f0,f1,f2⟩:=HX.out
      go_wp2_with fail
      refine bodyPost_ret (v:=.tuple #[.int .i64 0,.agg #[.int .i64 1,.int .i64 2,.slice a9 2 c9]]) (by simp [results,Tryz.results20,go_sem,r0,r1,r2]) rfl ⟨?_,below_set3 HB.out⟩
      rw [HR.out]
      refine ⟨_,rfl,a9,c9,?_,?_⟩
      ·simp only [HL2.out]; rfl
      ·simp only [HL2.out]; exact own_low (own_put3 HO.out (by omega)) (by omega)
     ·have HR:=hide (H5.out (by show ¬ (sz < 29∨4096 < sz); omega))
      have h4i:¬ ((sz:Int) < 29):=by omega
      clear H4 H5
      go_wp2_with fail
      refine bodyPost_ret (v:=.tuple #[.int .i64 (sz:Int),.agg #[.int .i64 0,.int .i64 0,.slice none 0 0]]) (by simp [results,Tryz.results20,go_sem,r0,r1,r2]) rfl ⟨?_,?_⟩
      ·rw [HR.out]; exact ⟨_,rfl,none,0,rfl,own_nil _ _ _ _⟩
      ·have h9:=below_set3 (u0:=.int .i64 0) (u1:=.int .i64 0) (u2:=.slice none 0 0) HB1.out
       exact ⟨h9.os,h9.tape,h9.output,h9.size,h9.block⟩
    ·by_cases h4:sz < 23
     ·have HR:=hide (H4.out (.inl h4))
      have h4i:(sz:Int) < 23:=by omega
      clear H4 H5
      go_wp2_with fail
      refine (HN2.out nq).mono ?_
      rintro e w2 ⟨a9,c9,rfl,HO,HB,HX⟩
      obtain ⟨hz,r0,r1,r2,f0,f1,f2⟩:=HX.out
      go_wp2_with fail
      refine bodyPost_ret (v:=.tuple #[.int .i64 0,.agg #[.int .i64 1,.int .i64 2,.slice a9 2 c9]]) (by simp [results,Tryz.results20,go_sem,r0,r1,r2]) rfl ⟨?_,below_set3 HB.out⟩
      rw [HR.out]
      refine ⟨_,rfl,a9,c9,?_,?_⟩
      ·simp only [HL2.out]; rfl
      ·simp only [HL2.out]; exact own_low (own_put3 HO.out (by omega)) (by omega)
     ·have HR:=hide (H5.out (by show ¬ (sz < 23∨4096 < sz); omega))
      have h4i:¬ ((sz:Int) < 23):=by omega
      clear H4 H5
      go_wp2_with fail
      refine bodyPost_ret (v:=.tuple #[.int .i64 (sz:Int),.agg #[.int .i64 0,.int .i64 0,.slice none 0 0]]) (by simp [results,Tryz.results20,go_sem,r0,r1,r2]) rfl ⟨?_,?_⟩
      ·rw [HR.out]; exact ⟨_,rfl,none,0,rfl,own_nil _ _ _ _⟩
      ·have h9:=below_set3 (u0:=.int .i64 0) (u1:=.int .i64 0) (u2:=.slice none 0 0) HB1.out
       exact ⟨h9.os,h9.tape,h9.output,h9.size,h9.block⟩
    ·by_cases h4:sz < 21
     ·have HR:=hide (H4.out (.inl h4))
      have h4i:(sz:Int) < 21:=by omega
      clear H4 H5
      go_wp2_with fail
      refine (HN2.out nq).mono ?_
      rintro e w2 ⟨a9,c9,rfl,HO,HB,HX⟩
      obtain ⟨hz,r0,r1,r2,f0,f1,f2⟩:=HX.out
      go_wp2_with fail
      refine bodyPost_ret (v:=.tuple #[.int .i64 0,.agg #[.int .i64 1,.int .i64 2,.slice a9 2 c9]]) (by simp [results,Tryz.results20,go_sem,r0,r1,r2]) rfl ⟨?_,below_set3 HB.out⟩
      rw [HR.out]
      refine ⟨_,rfl,a9,c9,?_,?_⟩
      ·simp only [HL2.out]; rfl
      ·simp only [HL2.out]; exact own_low (own_put3 HO.out (by omega)) (by omega)
     ·have HR:=hide (H5.out (by show ¬ (sz < 21∨4096 < sz); omega))
      have h4i:¬ ((sz:Int) < 21):=by omega
      clear H4 H5
      go_wp2_with fail
      refine bodyPost_ret (v:=.tuple #[.int .i64 (sz:Int),.agg #[.int .i64 0,.int .i64 0,.slice none 0 0]]) (by simp [results,Tryz.results20,go_sem,r0,r1,r2]) rfl ⟨?_,?_⟩
      ·rw [HR.out]; exact ⟨_,rfl,none,0,rfl,own_nil _ _ _ _⟩
      ·have h9:=below_set3 (u0:=.int .i64 0) (u1:=.int .i64 0) (u2:=.slice none 0 0) HB1.out
       exact ⟨h9.os,h9.tape,h9.output,h9.size,h9.block⟩
    ·by_cases h4:sz=19
     ·have HR:=hide (H5.out (by show ¬ (sz < 19∨19 < sz); omega))
      clear H4 H5
      subst h4
      go_wp2_with fail
      refine bodyPost_ret (v:=.tuple #[.int .i64 19,.agg #[.int .i64 0,.int .i64 0,.slice none 0 0]]) (by simp [results,Tryz.results20,go_sem,r0,r1,r2]) rfl ⟨?_,?_⟩
      ·rw [HR.out]; exact ⟨_,rfl,none,0,rfl,own_nil _ _ _ _⟩
      ·have h9:=below_set3 (u0:=.int .i64 0) (u1:=.int .i64 0) (u2:=.slice none 0 0) HB1.out
       exact ⟨h9.os,h9.tape,h9.output,h9.size,h9.block⟩
     ·have HR:=hide (H4.out (by show sz < 19∨19 < sz; omega))
      have h4i:((sz:Int) != 19)=true:=by simp; omega
      clear H4 H5
      go_wp2_with fail
      refine (HN2.out nq).mono ?_
      rintro e w2 ⟨a9,c9,rfl,HO,HB,HX⟩
      obtain ⟨hz,r0,r1,r2,f0,f1,f2⟩:=HX.out
      go_wp2_with fail
      refine bodyPost_ret (v:=.tuple #[.int .i64 0,.agg #[.int .i64 1,.int .i64 2,.slice a9 2 c9]]) (by simp [results,Tryz.results20,go_sem,r0,r1,r2]) rfl ⟨?_,below_set3 HB.out⟩
      rw [HR.out]
      refine ⟨_,rfl,a9,c9,?_,?_⟩
      ·simp only [HL2.out]; rfl
      ·simp only [HL2.out]; exact own_low (own_put3 HO.out (by omega)) (by omega)
theorem rhead_any (a:Option Addr)(c:Nat)(bs:List Nat)(w:World)(hl:bs.length≤100000)(hcap:bs.length≤c)(h:BRd w a bs) :
  Calls Tryz.prog 20 #[.slice a bs.length c] w fun e w'=>HdIs w w' e (headM bs)∧Below w.heap.size w w':=by
 by_cases h1:bs.length < 19
 ·rw [headM_short h1]; exact rhead_short a c _ w h1
 ·obtain ⟨b,o,rfl,_⟩:=h.1.2 (by omega)
  exact rhead_rest b o c _ bs w rfl (by omega) hl hcap h
end Go.Proofs.YtogbjeaceboemaaGreatDoor
