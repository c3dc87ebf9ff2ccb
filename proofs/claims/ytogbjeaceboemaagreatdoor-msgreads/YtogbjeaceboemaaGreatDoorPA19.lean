import Derived.Test.YtogbjeaceboemaaGreatDoorPA3
import Derived.Deep.RegionWith
namespace Go.Proofs.YtogbjeaceboemaaGreatDoor
open Go.RowKit
set_option maxRecDepth 100000
theorem own_cell {w:World}{B e size n g c X:Nat}{xs:List Value} (h:w.ownsRow B e size (.slice (some ⟨g,0,none⟩) n c) n xs) (hne:g≠X) (j:Nat) (u:Value):(w.setCell ⟨X,j,none⟩ u).ownsRow B e size (.slice (some ⟨g,0,none⟩) n c) n xs:=by
 refine ⟨h.1,?_⟩
 rcases h.2 with hh | ⟨g',cap,cur,ev,hg,hc,rest⟩
 ·exact .inl hh
 ·simp only [Value.slice.injEq,Option.some.injEq,Addr.mk.injEq,and_true,true_and] at ev
  obtain ⟨rfl,rfl⟩:=ev
  refine .inr ⟨g,_,cur,rfl,hg,?_,rest⟩
  rw [heap_setCell w X j _ g hne]
  exact hc
theorem numsAt_shift (f:Nat→Nat)(j n:Nat):numsAt (fun i=>f (j+i)) 0 n=numsAt f j n:=by
 simp [numsAt,Nat.add_assoc]
set_option maxHeartbeats 800000 in
theorem pfirst_short (a:Option Addr)(m c:Nat)(w:World)(hm:m < 2) :
  Calls Tryz.prog 148 #[.slice a m c] w fun e w'=>e=.returned (.tuple #[.agg #[.bool false,.slice none 0 0],.slice none 0 0,.bool false])∧Below w.heap.size w w':=by
 have h2:(m:Int) < 2:=by omega
 go_enter Tryz.func148,Tryz.ntmps148
 go_wp2
 exact bodyPost_ret (v:=.tuple #[.agg #[.bool false,.slice none 0 0],.slice none 0 0,.bool false]) (by simp [results,Tryz.results148,go_sem]) rfl ⟨rfl,(Below.refl _ _).alloc (Nat.le_refl _) _⟩
set_option maxHeartbeats 1600000 in
theorem pfirst_no (b o m c k n:Nat)(w:World)(hm:2≤m)(hmc:m≤c)(hm2:m≤100000)(hk:k < 256)(hn:n < 256)(h0:w.cell? ⟨b,o,none⟩=some (.int .u8 (k:Int)))(h1:w.cell? ⟨b,o+1,none⟩=some (.int .u8 (n:Int)))(hno:¬ ((k=1∨k=2)∧2+4 * n≤m)) :
  Calls Tryz.prog 148 #[.slice (some ⟨b,o,none⟩) m c] w fun e w'=>e=.returned (.tuple #[.agg #[.bool false,.slice none 0 0],.slice none 0 0,.bool false])∧Below w.heap.size w w':=by
 have hlt:=World.block_lt_of_cell? w _ h0
 simp only at hlt
 have m0:(0:Int) < (m:Int):=by omega
 have m1:(1:Int) < (m:Int):=by omega
 have m2:(2:Int)≤(m:Int):=by omega
 have d2:decide ((m:Int) < 2)=false:=decide_eq_false (by omega)
 have m3:(m:Int)≤(c:Int):=by omega
 by_cases hk1:k=1
 ·subst hk1
  have e4:((m - 2:Nat):Int) < 4 * (n:Int):=by omega
  clear hno
  go_enter Tryz.func148,Tryz.ntmps148
  go_wp2_with fail
  go_region
  go_wp2
  all_goals exact bodyPost_ret (v:=.tuple #[.agg #[.bool false,.slice none 0 0],.slice none 0 0,.bool false]) (by simp [results,Tryz.results148,go_sem]) rfl ⟨rfl,((Below.refl _ _).alloc (Nat.le_refl _) _).drew⟩
 ·by_cases hk2:k=2
  ·subst hk2
   have e4:((m - 2:Nat):Int) < 4 * (n:Int):=by omega
   clear hno
   go_enter Tryz.func148,Tryz.ntmps148
   go_wp2_with fail
   go_region
   go_wp2
   all_goals exact bodyPost_ret (v:=.tuple #[.agg #[.bool false,.slice none 0 0],.slice none 0 0,.bool false]) (by simp [results,Tryz.results148,go_sem]) rfl ⟨rfl,((Below.refl _ _).alloc (Nat.le_refl _) _).drew⟩
  ·have e1:((k:Int) != 1)=true:=by simp; omega
   have e2:((k:Int) != 2)=true:=by simp; omega
   clear hno
   go_enter Tryz.func148,Tryz.ntmps148
   go_wp2_with fail
   go_region
   go_wp2
   all_goals exact bodyPost_ret (v:=.tuple #[.agg #[.bool false,.slice none 0 0],.slice none 0 0,.bool false]) (by simp [results,Tryz.results148,go_sem]) rfl ⟨rfl,((Below.refl _ _).alloc (Nat.le_refl _) _).drew⟩
set_option maxHeartbeats 3200000 in
theorem pfirst_yes (b o m c k n:Nat)(f:Nat→Nat)(w:World)(hmc:m≤c)(hm2:m≤100000)(hk:k=1∨k=2)(hn:n < 256)(hnm:2+4 * n≤m)(hc2:¬ c=2)(hf:∀ i,i < 4 * n→f i < 256)(h0:w.cell? ⟨b,o,none⟩=some (.int .u8 (k:Int)))(h1:w.cell? ⟨b,o+1,none⟩=some (.int .u8 (n:Int)))(hcell:∀ i,i < 4 * n→w.cell? ⟨b,o+2+i,none⟩=some (.int .u8 (f i:Int))) :
  Calls Tryz.prog 148 #[.slice (some ⟨b,o,none⟩) m c] w fun e w'=>∃ g a' c',e=.returned (.tuple #[.agg #[.bool (decide (k=1)),.slice (some ⟨g,0,none⟩) n n],.slice a' (m - (2+4 * n)) c',.bool true])∧m - (2+4 * n)≤c'∧(2+4 * n < m→a'=some ⟨b,o+(2+4 * n),none⟩)∧w'.ownsRow w.heap.size 3 1 (.slice (some ⟨g,0,none⟩) n n) n (icells (numsAt f 0 n))∧Below w.heap.size w w':=by
 have hlt:=World.block_lt_of_cell? w _ h0
 simp only at hlt
 have HN:Hid (∀ w1:World,Below w.heap.size w w1→Calls Tryz.prog 162 #[.slice (some ⟨b,o+2,none⟩) (4 * n) (c - 2)] w1 fun e w'=>e=.returned (.slice (some ⟨w1.heap.size,0,none⟩) n n)∧w'.ownsRow w1.heap.size 3 1 (.slice (some ⟨w1.heap.size,0,none⟩) n n) n (icells (numsAt f 0 n))∧Below w1.heap.size w1 w'):=fun w1 hb1 =>
  numbers_any b (o+2) n (c - 2) f w1 (by omega) hf (fun i hi=>by rw [hb1.cell (p:=⟨b,o+2+i,none⟩) hlt]; exact hcell i hi)
 have m0:(0:Int) < (m:Int):=by omega
 have m1:(1:Int) < (m:Int):=by omega
 have m2:(2:Int)≤(m:Int):=by omega
 have d2:decide ((m:Int) < 2)=false:=decide_eq_false (by omega)
 have m3:(m:Int)≤(c:Int):=by omega
 have m5:((m - 2:Nat):Int)≤((c - 2:Nat):Int):=by omega
 have HA:Hid (∀ a',a'=(if c - 2=4 * n then some (⟨b,o+2,none⟩:Addr) else some ⟨b,o+2+4 * n,none⟩)→2+4 * n < m→a'=some ⟨b,o+(2+4 * n),none⟩):=fun a' ha hlt9=>by rw [ha,if_neg (by omega),Nat.add_assoc]
 have HE:Hid (m - 2 - 4 * n=m - (2+4 * n)∧m - (2+4 * n)≤c - 2 - 4 * n):=⟨by omega,by omega⟩
 clear hcell hf
 generalize hs:4 * n=s at *
 have hs2:(4:Int) * (n:Int)=(s:Int):=by omega
 have m6:(s:Int)≤((m - 2:Nat):Int):=by omega
 have m7:(s:Int)≤((c - 2:Nat):Int):=by omega
 have m8:decide (((m - 2:Nat):Int) < (s:Int))=false:=decide_eq_false (by omega)
 have ws:IntKind.i64.wrap (s:Int)=(s:Int):=by rw [IntKind.wrap_i64]; omega
 have HS:=hide hs
 clear hs
 rcases hk with rfl | rfl
 ·by_cases hcs:c - 2=s
  ·rw [hcs] at HN HE HA
   go_enter Tryz.func148,Tryz.ntmps148
   go_wp2_with fail
   go_region
   go_wp2_with fail
   go_region_with (go_at_call 162; refine (HN.out _ (((Below.refl _ _).alloc (Nat.le_refl _) _).drew.drew)).mono ?_; rintro e w2 ⟨rfl,ho,hb⟩; have r0:w2.cell? ⟨w.heap.size,0,none⟩=some (.bool false):=(by rw [hb.cell (p:=⟨w.heap.size,0,none⟩) (by simp)]; simp [go_sem]); have r1:w2.cell? ⟨w.heap.size,1,none⟩=some (.slice none 0 0):=(by rw [hb.cell (p:=⟨w.heap.size,1,none⟩) (by simp)]; simp [go_sem]); have z0:w2.frozen? ⟨w.heap.size,0,none⟩=false:=(by rw [hb.frozen (p:=⟨w.heap.size,0,none⟩) (by simp)]; simp [go_sem]); have z1:w2.frozen? ⟨w.heap.size,1,none⟩=false:=(by rw [hb.frozen (p:=⟨w.heap.size,1,none⟩) (by simp)]; simp [go_sem]); have hz:w.heap.size < w2.heap.size:=(by have:=hb.size; simp at this; omega); have HB:=hide hb; have HO:=hide ho; clear hb ho)
   all_goals go_wp2
   all_goals refine bodyPost_ret (v:=.tuple #[.agg #[.bool true,.slice (some ⟨w.heap.size+1,0,none⟩) n n],.slice (some ⟨b,o+2,none⟩) (m - 2 - s) (s - s),.bool true]) (by simp [results,Tryz.results148,go_sem,r0,r1,Act.put]) rfl ⟨w.heap.size+1,(some ⟨b,o+2,none⟩),_,by rw [HE.out.1]; rfl,by have:=HE.out.2; omega,HA.out _ (by simp),?_,?_⟩
   ·exact own_cell (g:=w.heap.size+1) (own_cell (g:=w.heap.size+1) (own_base (B:=w.heap.size+1) (by simpa using HO.out) (by omega)) (by omega) _ _) (by omega) _ _
   ·exact ((((((Below.refl _ _).alloc (Nat.le_refl _) _).drew.drew).trans (HB.out.mono (by simp))).setCell (Nat.le_refl _) _).setCell (Nat.le_refl _) _)
  ·have hcs2:decide (c - 2=s)=false:=decide_eq_false hcs
   go_enter Tryz.func148,Tryz.ntmps148
   go_wp2_with fail
   go_region
   go_wp2_with fail
   go_region_with (go_at_call 162; refine (HN.out _ (((Below.refl _ _).alloc (Nat.le_refl _) _).drew.drew)).mono ?_; rintro e w2 ⟨rfl,ho,hb⟩; have r0:w2.cell? ⟨w.heap.size,0,none⟩=some (.bool false):=(by rw [hb.cell (p:=⟨w.heap.size,0,none⟩) (by simp)]; simp [go_sem]); have r1:w2.cell? ⟨w.heap.size,1,none⟩=some (.slice none 0 0):=(by rw [hb.cell (p:=⟨w.heap.size,1,none⟩) (by simp)]; simp [go_sem]); have z0:w2.frozen? ⟨w.heap.size,0,none⟩=false:=(by rw [hb.frozen (p:=⟨w.heap.size,0,none⟩) (by simp)]; simp [go_sem]); have z1:w2.frozen? ⟨w.heap.size,1,none⟩=false:=(by rw [hb.frozen (p:=⟨w.heap.size,1,none⟩) (by simp)]; simp [go_sem]); have hz:w.heap.size < w2.heap.size:=(by have:=hb.size; simp at this; omega); have HB:=hide hb; have HO:=hide ho; clear hb ho)
   all_goals go_wp2
   all_goals refine bodyPost_ret (v:=.tuple #[.agg #[.bool true,.slice (some ⟨w.heap.size+1,0,none⟩) n n],.slice (some ⟨b,o+2+s,none⟩) (m - 2 - s) ((c - 2) - s),.bool true]) (by simp [results,Tryz.results148,go_sem,r0,r1,Act.put]) rfl ⟨w.heap.size+1,(some ⟨b,o+2+s,none⟩),_,by rw [HE.out.1]; rfl,by have:=HE.out.2; omega,HA.out _ (by simp [hcs]),?_,?_⟩
   ·exact own_cell (g:=w.heap.size+1) (own_cell (g:=w.heap.size+1) (own_base (B:=w.heap.size+1) (by simpa using HO.out) (by omega)) (by omega) _ _) (by omega) _ _
   ·exact ((((((Below.refl _ _).alloc (Nat.le_refl _) _).drew.drew).trans (HB.out.mono (by simp))).setCell (Nat.le_refl _) _).setCell (Nat.le_refl _) _)
 ·by_cases hcs:c - 2=s
  ·rw [hcs] at HN HE HA
   go_enter Tryz.func148,Tryz.ntmps148
   go_wp2_with fail
   go_region
   go_wp2_with fail
   go_region_with (go_at_call 162; refine (HN.out _ (((Below.refl _ _).alloc (Nat.le_refl _) _).drew.drew)).mono ?_; rintro e w2 ⟨rfl,ho,hb⟩; have r0:w2.cell? ⟨w.heap.size,0,none⟩=some (.bool false):=(by rw [hb.cell (p:=⟨w.heap.size,0,none⟩) (by simp)]; simp [go_sem]); have r1:w2.cell? ⟨w.heap.size,1,none⟩=some (.slice none 0 0):=(by rw [hb.cell (p:=⟨w.heap.size,1,none⟩) (by simp)]; simp [go_sem]); have z0:w2.frozen? ⟨w.heap.size,0,none⟩=false:=(by rw [hb.frozen (p:=⟨w.heap.size,0,none⟩) (by simp)]; simp [go_sem]); have z1:w2.frozen? ⟨w.heap.size,1,none⟩=false:=(by rw [hb.frozen (p:=⟨w.heap.size,1,none⟩) (by simp)]; simp [go_sem]); have hz:w.heap.size < w2.heap.size:=(by have:=hb.size; simp at this; omega); have HB:=hide hb; have HO:=hide ho; clear hb ho)
   all_goals go_wp2
   all_goals refine bodyPost_ret (v:=.tuple #[.agg #[.bool false,.slice (some ⟨w.heap.size+1,0,none⟩) n n],.slice (some ⟨b,o+2,none⟩) (m - 2 - s) (s - s),.bool true]) (by simp [results,Tryz.results148,go_sem,r0,r1,Act.put]) rfl ⟨w.heap.size+1,(some ⟨b,o+2,none⟩),_,by rw [HE.out.1]; rfl,by have:=HE.out.2; omega,HA.out _ (by simp),?_,?_⟩
   ·exact own_cell (g:=w.heap.size+1) (own_cell (g:=w.heap.size+1) (own_base (B:=w.heap.size+1) (by simpa using HO.out) (by omega)) (by omega) _ _) (by omega) _ _
   ·exact ((((((Below.refl _ _).alloc (Nat.le_refl _) _).drew.drew).trans (HB.out.mono (by simp))).setCell (Nat.le_refl _) _).setCell (Nat.le_refl _) _)
  ·have hcs2:decide (c - 2=s)=false:=decide_eq_false hcs
   go_enter Tryz.func148,Tryz.ntmps148
   go_wp2_with fail
   go_region
   go_wp2_with fail
   go_region_with (go_at_call 162; refine (HN.out _ (((Below.refl _ _).alloc (Nat.le_refl _) _).drew.drew)).mono ?_; rintro e w2 ⟨rfl,ho,hb⟩; have r0:w2.cell? ⟨w.heap.size,0,none⟩=some (.bool false):=(by rw [hb.cell (p:=⟨w.heap.size,0,none⟩) (by simp)]; simp [go_sem]); have r1:w2.cell? ⟨w.heap.size,1,none⟩=some (.slice none 0 0):=(by rw [hb.cell (p:=⟨w.heap.size,1,none⟩) (by simp)]; simp [go_sem]); have z0:w2.frozen? ⟨w.heap.size,0,none⟩=false:=(by rw [hb.frozen (p:=⟨w.heap.size,0,none⟩) (by simp)]; simp [go_sem]); have z1:w2.frozen? ⟨w.heap.size,1,none⟩=false:=(by rw [hb.frozen (p:=⟨w.heap.size,1,none⟩) (by simp)]; simp [go_sem]); have hz:w.heap.size < w2.heap.size:=(by have:=hb.size; simp at this; omega); have HB:=hide hb; have HO:=hide ho; clear hb ho)
   all_goals go_wp2
   all_goals refine bodyPost_ret (v:=.tuple #[.agg #[.bool false,.slice (some ⟨w.heap.size+1,0,none⟩) n n],.slice (some ⟨b,o+2+s,none⟩) (m - 2 - s) ((c - 2) - s),.bool true]) (by simp [results,Tryz.results148,go_sem,r0,r1,Act.put]) rfl ⟨w.heap.size+1,(some ⟨b,o+2+s,none⟩),_,by rw [HE.out.1]; rfl,by have:=HE.out.2; omega,HA.out _ (by simp [hcs]),?_,?_⟩
   ·exact own_cell (g:=w.heap.size+1) (own_cell (g:=w.heap.size+1) (own_base (B:=w.heap.size+1) (by simpa using HO.out) (by omega)) (by omega) _ _) (by omega) _ _
   ·exact ((((((Below.refl _ _).alloc (Nat.le_refl _) _).drew.drew).trans (HB.out.mono (by simp))).setCell (Nat.le_refl _) _).setCell (Nat.le_refl _) _)
set_option maxHeartbeats 1600000 in
theorem pfirst_two (b o k:Nat)(f:Nat→Nat)(w:World)(hk:k=1∨k=2)(h0:w.cell? ⟨b,o,none⟩=some (.int .u8 (k:Int)))(h1:w.cell? ⟨b,o+1,none⟩=some (.int .u8 0)) :
  Calls Tryz.prog 148 #[.slice (some ⟨b,o,none⟩) 2 2] w fun e w'=>∃ g a' c',e=.returned (.tuple #[.agg #[.bool (decide (k=1)),.slice (some ⟨g,0,none⟩) 0 0],.slice a' 0 c',.bool true])∧w'.ownsRow w.heap.size 3 1 (.slice (some ⟨g,0,none⟩) 0 0) 0 (icells (numsAt f 0 0))∧Below w.heap.size w w':=by
 have hlt:=World.block_lt_of_cell? w _ h0
 simp only at hlt
 rcases hk with rfl | rfl
 ·go_enter Tryz.func148,Tryz.ntmps148
  go_wp2_with fail
  go_region
  go_wp2_with fail
  go_region_with (go_at_call 162; refine (numbers_none _ 0 f _).mono ?_; rintro e w2 ⟨rfl,ho,hb⟩; have r0:w2.cell? ⟨w.heap.size,0,none⟩=some (.bool false):=(by rw [hb.cell (p:=⟨w.heap.size,0,none⟩) (by simp)]; simp [go_sem]); have r1:w2.cell? ⟨w.heap.size,1,none⟩=some (.slice none 0 0):=(by rw [hb.cell (p:=⟨w.heap.size,1,none⟩) (by simp)]; simp [go_sem]); have z0:w2.frozen? ⟨w.heap.size,0,none⟩=false:=(by rw [hb.frozen (p:=⟨w.heap.size,0,none⟩) (by simp)]; simp [go_sem]); have z1:w2.frozen? ⟨w.heap.size,1,none⟩=false:=(by rw [hb.frozen (p:=⟨w.heap.size,1,none⟩) (by simp)]; simp [go_sem]); have hz:w.heap.size < w2.heap.size:=(by have:=hb.size; simp at this; omega); have HB:=hide hb; have HO:=hide ho; clear hb ho)
  all_goals go_wp2
  all_goals refine bodyPost_ret (v:=.tuple #[.agg #[.bool true,.slice (some ⟨w.heap.size+1,0,none⟩) 0 0],.slice (some ⟨b,o,none⟩) 0 0,.bool true]) (by simp [results,Tryz.results148,go_sem,r0,r1,Act.put]) rfl ⟨w.heap.size+1,(some ⟨b,o,none⟩),0,rfl,?_,?_⟩
  ·exact own_cell (g:=w.heap.size+1) (own_cell (g:=w.heap.size+1) (own_base (B:=w.heap.size+1) (by simpa using HO.out) (by omega)) (by omega) _ _) (by omega) _ _
  ·exact ((((((Below.refl _ _).alloc (Nat.le_refl _) _).drew.drew).trans (HB.out.mono (by simp))).setCell (Nat.le_refl _) _).setCell (Nat.le_refl _) _)
 ·go_enter Tryz.func148,Tryz.ntmps148
  go_wp2_with fail
  go_region
  go_wp2_with fail
  go_region_with (go_at_call 162; refine (numbers_none _ 0 f _).mono ?_; rintro e w2 ⟨rfl,ho,hb⟩; have r0:w2.cell? ⟨w.heap.size,0,none⟩=some (.bool false):=(by rw [hb.cell (p:=⟨w.heap.size,0,none⟩) (by simp)]; simp [go_sem]); have r1:w2.cell? ⟨w.heap.size,1,none⟩=some (.slice none 0 0):=(by rw [hb.cell (p:=⟨w.heap.size,1,none⟩) (by simp)]; simp [go_sem]); have z0:w2.frozen? ⟨w.heap.size,0,none⟩=false:=(by rw [hb.frozen (p:=⟨w.heap.size,0,none⟩) (by simp)]; simp [go_sem]); have z1:w2.frozen? ⟨w.heap.size,1,none⟩=false:=(by rw [hb.frozen (p:=⟨w.heap.size,1,none⟩) (by simp)]; simp [go_sem]); have hz:w.heap.size < w2.heap.size:=(by have:=hb.size; simp at this; omega); have HB:=hide hb; have HO:=hide ho; clear hb ho)
  all_goals go_wp2
  all_goals refine bodyPost_ret (v:=.tuple #[.agg #[.bool false,.slice (some ⟨w.heap.size+1,0,none⟩) 0 0],.slice (some ⟨b,o,none⟩) 0 0,.bool true]) (by simp [results,Tryz.results148,go_sem,r0,r1,Act.put]) rfl ⟨w.heap.size+1,(some ⟨b,o,none⟩),0,rfl,?_,?_⟩
  ·exact own_cell (g:=w.heap.size+1) (own_cell (g:=w.heap.size+1) (own_base (B:=w.heap.size+1) (by simpa using HO.out) (by omega)) (by omega) _ _) (by omega) _ _
  ·exact ((((((Below.refl _ _).alloc (Nat.le_refl _) _).drew.drew).trans (HB.out.mono (by simp))).setCell (Nat.le_refl _) _).setCell (Nat.le_refl _) _)
theorem segOk_at {f:Nat→Nat}{len i:Nat} (h:segOk f len i=true):i+2≤len∧(f i=1∨f i=2)∧i+2+4 * f (i+1)≤len:=of_decide_eq_true h
theorem pfirst_at (b off len i c:Nat)(f:Nat→Nat)(w:World)(hc:len - i≤c)(hl:len≤100000)(hf:∀ j,j < len→f j < 256)(hcell:∀ j,j < len→w.cell? ⟨b,off+j,none⟩=some (.int .u8 (f j:Int)))(hk:segOk f len i=true) :
  Calls Tryz.prog 148 #[.slice (some ⟨b,off+i,none⟩) (len - i) c] w fun e w'=>∃ g a' c',e=.returned (.tuple #[.agg #[.bool (segAt f i).1,.slice (some ⟨g,0,none⟩) (f (i+1)) (f (i+1))],.slice a' (len - (i+2+4 * f (i+1))) c',.bool true])∧len - (i+2+4 * f (i+1))≤c'∧(i+2+4 * f (i+1) < len→a'=some ⟨b,off+(i+2+4 * f (i+1)),none⟩)∧w'.ownsRow w.heap.size 3 1 (.slice (some ⟨g,0,none⟩) (f (i+1)) (f (i+1))) (f (i+1)) (icells (segAt f i).2)∧Below w.heap.size w w':=by
 obtain ⟨h1,h2,h3⟩:=segOk_at hk
 have hn:=hf (i+1) (by omega)
 have c0:=hcell i (by omega)
 have c1:w.cell? ⟨b,off+i+1,none⟩=some (.int .u8 (f (i+1):Int)):=hcell (i+1) (by omega)
 by_cases hc2:c=2
 ·subst hc2
  have e1:len - i=2:=by omega
  have e2:f (i+1)=0:=by omega
  rw [e2] at c1
  rw [e1]
  refine (pfirst_two b (off+i) (f i) (fun j=>f (i+2+j)) w h2 c0 c1).mono ?_
  rintro e w' ⟨g,a',c',rfl,ho,hb⟩
  refine ⟨g,a',c',?_,by omega,fun h=>absurd h (by omega),?_,hb⟩
  ·rw [e2,show len - (i+2+4 * 0)=0 from by omega]; rfl
  ·have e3:(segAt f i).2=numsAt (fun j=>f (i+2+j)) 0 0:=by unfold segAt; rw [e2,numsAt_shift]
   rw [e3,e2]; exact ho
 ·refine (pfirst_yes b (off+i) (len - i) c (f i) (f (i+1)) (fun j=>f (i+2+j)) w hc (by omega) h2 hn (by omega) hc2 (fun j hj=>hf (i+2+j) (by omega)) c0 c1 (fun j hj=>by
   have:=hcell (i+2+j) (by omega)
   rwa [show off+(i+2+j)=off+i+2+j from by omega] at this)).mono ?_
  rintro e w' ⟨g,a',c',rfl,hc',ha',ho,hb⟩
  refine ⟨g,a',c',?_,by omega,fun h=>by rw [ha' (by omega)]; congr 2; omega,?_,hb⟩
  ·rw [show len - i - (2+4 * f (i+1))=len - (i+2+4 * f (i+1)) from by omega]; rfl
  ·have e3:(segAt f i).2=numsAt (fun j=>f (i+2+j)) 0 (f (i+1)):=by unfold segAt; rw [numsAt_shift]
   rw [e3]; exact ho
theorem pfirst_bad (b off len i c:Nat)(f:Nat→Nat)(w:World)(hi:i < len)(hc:len - i≤c)(hl:len≤100000)(hf:∀ j,j < len→f j < 256)(hcell:∀ j,j < len→w.cell? ⟨b,off+j,none⟩=some (.int .u8 (f j:Int)))(hk:segOk f len i=false) :
  Calls Tryz.prog 148 #[.slice (some ⟨b,off+i,none⟩) (len - i) c] w fun e w'=>e=.returned (.tuple #[.agg #[.bool false,.slice none 0 0],.slice none 0 0,.bool false])∧Below w.heap.size w w':=by
 have hno:=of_decide_eq_false hk
 by_cases h2:i+2≤len
 ·exact pfirst_no b (off+i) (len - i) c (f i) (f (i+1)) w (by omega) hc (by omega) (hf i hi) (hf (i+1) (by omega)) (hcell i hi) (hcell (i+1) (by omega)) (fun h=>hno ⟨h2,h.1,by omega⟩)
 ·exact pfirst_short _ (len - i) c w (by omega)
end Go.Proofs.YtogbjeaceboemaaGreatDoor
