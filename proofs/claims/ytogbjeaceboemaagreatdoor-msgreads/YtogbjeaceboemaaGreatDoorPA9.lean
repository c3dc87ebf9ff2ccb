import Derived.Test.YtogbjeaceboemaaGreatDoorPA0
import Derived.Test.YtogbjeaceboemaaGreatDoorPA1
import Derived.Laws.BitsAllLaws
import Derived.Deep.QuietTactic
import Derived.BigQuiet
import Derived.Deep.RegionWith
import Derived.Test.YtogbjeaceboemaaGreatDoorPA2
namespace Go.Proofs.YtogbjeaceboemaaGreatDoor
open Go.RowKit
set_option maxRecDepth 100000
def pfx (A:Nat)(L:Int):Value:=.agg #[.int .u32 (A:Int),.int .i64 L]
theorem mask_val (n:Nat):(4294967295 * 2 ^ (32 - n) % 4294967296:Int)=((maskOf n:Nat):Int):=by
 have h1:=pow_le32 n
 have h0:=Nat.two_pow_pos (32 - n)
 have e:(2:Int) ^ (32 - n)=((2 ^ (32 - n):Nat):Int):=by simp
 rw [e]
 unfold maskOf
 generalize 2 ^ (32 - n)=m at *
 omega
theorem bit_val (A i:Nat):((A:Int) / 2 ^ (31 - i)).tmod 2=((bitAt A i:Nat):Int):=by
 unfold bitAt
 have e:(A:Int) / 2 ^ (31 - i)=((A / 2 ^ (31 - i):Nat):Int):=by simp
 rw [e,Int.tmod_eq_emod_of_nonneg (Int.natCast_nonneg _)]
 omega
theorem and_val (A n:Nat)(h:A < 4294967296)(hn:n≤32):bits .and .u32 (A:Int) (maskOf n:Int)=((cutTo A n:Nat):Int):=by
 rw [u32_and_nat A (maskOf n) h (maskOf_lt n),and_mask A n h hn]
set_option maxHeartbeats 400000 in
theorem mask_any (n:Nat)(w:World)(hn:n≤32):Calls Tryz.prog 124 #[.int .i64 (n:Int)] w fun e w'=>e=.returned (.int .u32 (maskOf n:Int))∧w'=w:=by
 go_enter Tryz.func124,Tryz.ntmps124
 go_wp2
 go_ret
 exact ⟨ret_int (mask_val n),rfl⟩
set_option maxHeartbeats 400000 in
theorem bit_any (A i:Nat)(w:World)(hi:i < 32):Calls Tryz.prog 74 #[.int .u32 (A:Int),.int .i64 (i:Int)] w fun e w'=>e=.returned (.int .u32 (bitAt A i:Int))∧w'=w:=by
 go_enter Tryz.func74,Tryz.ntmps74
 go_wp2
 go_ret
 exact ⟨ret_int (bit_val A i),rfl⟩
set_option maxHeartbeats 400000 in
theorem make_in (A n:Nat)(w:World)(hA:A < 4294967296)(hn:n≤32):Calls Tryz.prog 95 #[.int .u32 (A:Int),.int .i64 (n:Int)] w fun e w'=>e=.returned (.tuple #[pfx (cutTo A n) n,.bool true])∧Below w.heap.size w w':=by
 have d0:decide ((n:Int) < 0)=false:=decide_eq_false (by omega)
 have d1:decide ((32:Int) < (n:Int))=false:=decide_eq_false (by omega)
 go_enter Tryz.func95,Tryz.ntmps95
 go_wp2_with fail
 refine (mask_any n _ hn).mono ?_
 rintro e w1 ⟨rfl,rfl⟩
 go_wp2
 refine bodyPost_ret (v:=.tuple #[pfx (cutTo A n) n,.bool true]) (by simp [results,Tryz.results95,go_sem,pfx,and_val A n hA hn]) rfl ⟨rfl,(Below.refl _ _).alloc (Nat.le_refl _) _⟩
theorem step_val (A k x:Nat)(hk:k < 32)(hx:x=cutTo A k):(x:Int)+(bitAt A k:Int) * 2 ^ (31 - k)=((cutTo A (k+1):Nat):Int):=by
 rw [cutTo_succ A k hk,hx]
 simp
theorem step_lt (A k x:Nat)(hA:A < 4294967296)(hk:k < 32)(hx:x=cutTo A k):(x:Int)+(bitAt A k:Int) * 2 ^ (31 - k) < 4294967296:=by
 rw [step_val A k x hk hx]
 have:=cutTo_lt A (k+1) hA
 omega
theorem step_wrap (A k x:Nat)(hA:A < 4294967296)(hk:k < 32)(hx:x=cutTo A k) :
  IntKind.u32.wrap ((x:Int)+IntKind.u32.wrap ((bitAt A k:Int) * 2 ^ min (IntKind.u64.wrap (IntKind.i64.wrap (31 - (k:Int)))).toNat 32))=((cutTo A (k+1):Nat):Int):=by
 have e:min (IntKind.u64.wrap (IntKind.i64.wrap (31 - (k:Int)))).toNat 32=31 - k:=by
  rw [IntKind.wrap_i64,IntKind.wrap_u64]; omega
 rw [e,← step_val A k x hk hx]
 have h1:=step_lt A k x hA hk hx
 have h0:0≤(bitAt A k:Int) * 2 ^ (31 - k):=by
  have e2:(bitAt A k:Int) * 2 ^ (31 - k)=((bitAt A k * 2 ^ (31 - k):Nat):Int):=by simp
  rw [e2]; exact Int.natCast_nonneg _
 generalize (bitAt A k:Int) * 2 ^ (31 - k)=z at *
 rw [IntKind.wrap_u32,IntKind.wrap_u32]
 omega
theorem set_first (w0:World)(a b v:Value)(t:TypeId)(m h:Nat)(hh:w0.heap.size=h):((w0.alloc (.cells #[a,b] t)).drewN m).setCell ⟨h,0,none⟩ v=(w0.alloc (.cells #[v,b] t)).drewN m:=by
 subst hh
 have:=World.setCell_alloc_new (w:=w0) #[a,b] t 0 v
 show ((w0.alloc (.cells #[a,b] t)).setCell ⟨w0.heap.size,0,none⟩ v).drewN m=_
 rw [this]
 rfl
set_option maxHeartbeats 800000 in
theorem rmake_in (A n:Nat)(w:World)(hA:A < 4294967296)(hn:n≤32):Calls Tryz.prog 49 #[.int .u32 (A:Int),.int .i64 (n:Int)] w fun e w'=>e=.returned (.tuple #[pfx (cutTo A n) n,.bool true])∧Below w.heap.size w w':=by
 have d0:decide ((n:Int) < 0)=false:=decide_eq_false (by omega)
 have d1:decide ((32:Int) < (n:Int))=false:=decide_eq_false (by omega)
 go_enter Tryz.func49,Tryz.ntmps49
 go_wp2
 go_loopw [7] (fun i wq=>∃ k x m:Nat,k≤n∧i=.int .i64 k∧Hid (x=cutTo A k)∧wq=((w.alloc (Obj.cells #[.int .u32 0,.int .i64 0] 96)).alloc (Obj.cells #[.int .u32 (x:Int),.int .i64 n] 96)).drewN m) (fun i _=>n - (intOf i).toNat)
 case atStart=>exact ⟨0,0,0,Nat.zero_le _,rfl,(cutTo_none A hA).symm,rfl⟩
 case round =>
  obtain ⟨k,x,m,hk,rfl,HX,rfl⟩:=hrel
  have hb:bitAt A k < 2:=bitAt_lt A k
  by_cases hlt:k < n
  ·have hx:=step_lt A k x hA (by omega) HX.out
   have HS:Hid (((x:Int)+(bitAt A k:Int) * 2 ^ (31 - k))=((cutTo A (k+1):Nat):Int)):=step_val A k x (by omega) HX.out
   go_wp2_with fail
   go_region_with ((go_at_call 74; refine (bit_any A k _ (by omega)).mono ?_; rintro e w1 ⟨rfl,rfl⟩))
   all_goals rw [step_wrap A k x hA (by omega) HX.out,set_first _ _ _ _ _ _ _ (by simp)]
   all_goals go_wp2
   all_goals exact ⟨⟨k+1,cutTo A (k+1),m+1,by omega,by go_num,rfl,rfl⟩,by simp [intOf]; omega⟩
  ·have hkn:k=n:=by omega
   subst hkn
   clear hlt hk
   go_wp2
   exact bodyPost_ret (v:=.tuple #[pfx (cutTo A k) k,.bool true]) (by simp [results,Tryz.results49,go_sem,pfx,HX.out]) rfl ⟨rfl,((below_drewN (((Below.refl _ _).alloc (Nat.le_refl _) _).alloc (by simp) _) m).setCell (by simp) _).setCell (by simp) _⟩
set_option maxHeartbeats 400000 in
theorem bytesFor_any (n:Nat)(w:World)(hn:n≤1000):Calls Tryz.prog 93 #[.int .i64 (n:Int)] w fun e w'=>e=.returned (.int .i64 (szOf n:Int))∧w'=w:=by
 go_enter Tryz.func93,Tryz.ntmps93
 go_wp2
 go_ret
 exact ⟨ret_int (by unfold szOf; omega),rfl⟩
set_option maxHeartbeats 400000 in
theorem fshift_any (i:Nat)(w:World)(hi:i < 4):Calls Tryz.prog 94 #[.int .i64 (i:Int)] w fun e w'=>e=.returned (.int .i64 ((8 * (3 - i):Nat):Int))∧w'=w:=by
 go_enter Tryz.func94,Tryz.ntmps94
 go_wp2
 go_ret
 exact ⟨ret_int (by omega),rfl⟩
set_option maxHeartbeats 800000 in
theorem first_no (b o m c:Nat)(f:Nat→Nat)(w:World)(hm:0 < m)(hmc:m≤c)(hm2:m≤100000)(hf:f 0 < 256)(h0:w.cell? ⟨b,o,none⟩=some (.int .u8 (f 0:Int)))(hk:okAt f m 0=false) :
  Calls Tryz.prog 67 #[.slice (some ⟨b,o,none⟩) m c] w fun e w'=>e=.returned (.tuple #[pfx 0 0,.slice none 0 0,.bool false])∧Below w.heap.size w w':=by
 have hlt:=World.block_lt_of_cell? w _ h0
 simp only at hlt
 have hok:=of_decide_eq_false hk
 have m0:(0:Int) < (m:Int):=by omega
 have m1:(1:Int)≤(m:Int):=by omega
 have m2:(m:Int)≤(c:Int):=by omega
 have e1:((m:Int) - 1)=((m - 1:Nat):Int):=by omega
 generalize f 0=n at *
 by_cases h32:32 < n
 ·have i32:(32:Int) < (n:Int):=by omega
  clear hok
  go_enter Tryz.func67,Tryz.ntmps67
  go_wp2_with ((go_at_call 93; refine (bytesFor_any n _ (by omega)).mono ?_; rintro e w1 ⟨rfl,rfl⟩))
  all_goals exact bodyPost_ret (v:=.tuple #[pfx 0 0,.slice none 0 0,.bool false]) (by simp [results,Tryz.results67,go_sem,pfx]) rfl ⟨rfl,(Below.refl _ _).alloc (Nat.le_refl _) _⟩
 ·have d32:decide ((32:Int) < (n:Int))=false:=decide_eq_false (by omega)
  have hs:((m - 1:Nat):Int) < (szOf n:Int):=by omega
  clear hok
  go_enter Tryz.func67,Tryz.ntmps67
  go_wp2_with ((go_at_call 93; refine (bytesFor_any n _ (by omega)).mono ?_; rintro e w1 ⟨rfl,rfl⟩))
  all_goals exact bodyPost_ret (v:=.tuple #[pfx 0 0,.slice none 0 0,.bool false]) (by simp [results,Tryz.results67,go_sem,pfx]) rfl ⟨rfl,(Below.refl _ _).alloc (Nat.le_refl _) _⟩
theorem or_val (f:Nat→Nat)(k x:Nat)(hk:k < 4)(hf:f (1+k) < 256)(hx:x < 4294967296)(e:x=numUp f 1 k) :
  bits .or .u32 (x:Int) ((f (1+k):Int) * 2 ^ (8 * (3 - k)) % 4294967296)=((numUp f 1 (k+1):Nat):Int):=by
 have hlt:f (1+k) * 2 ^ (8 * (3 - k)) < 4294967296:=by
  have h1:f (1+k) * 2 ^ (8 * (3 - k)) < 256 * 2 ^ (8 * (3 - k)):=Nat.mul_lt_mul_of_pos_right hf (Nat.two_pow_pos _)
  have h2:2 ^ (8 * (3 - k))≤2 ^ 24:=Nat.pow_le_pow_right (by omega) (by omega)
  simp only [Nat.reducePow] at h2
  omega
 have e2:(f (1+k):Int) * 2 ^ (8 * (3 - k))=((f (1+k) * 2 ^ (8 * (3 - k)):Nat):Int):=by simp
 rw [e2,Int.emod_eq_of_lt (Int.natCast_nonneg _) (by omega),u32_or_nat x _ hx hlt,e,numUp_or f 1 k hk hf]
set_option maxHeartbeats 1600000 in
theorem first_yes (b o m c:Nat)(f:Nat→Nat)(w:World)(hmc:m≤c)(hm2:m≤100000)(hf:∀ i,i < m→f i < 256)(hcell:∀ i,i < m→w.cell? ⟨b,o+i,none⟩=some (.int .u8 (f i:Int)))(n s:Nat)(hn:f 0=n)(hs:szOf n=s)(hn32:n≤32)(hsm:1+s≤m)(hc1:¬ c=1) :
  Calls Tryz.prog 67 #[.slice (some ⟨b,o,none⟩) m c] w fun e w'=>∃ a' c',e=.returned (.tuple #[pfx (cutTo (numUp f 1 s) n) n,.slice a' (m - 1 - s) c',.bool true])∧m - 1 - s≤c'∧(1+s < m→a'=some ⟨b,o+(1+s),none⟩)∧Below w.heap.size w w':=by
 have h0:=hcell 0 (by omega)
 rw [Nat.add_zero,hn] at h0
 have hlt:=World.block_lt_of_cell? w _ h0
 simp only at hlt
 have hs4:s≤4:=by have:=szOf_le n hn32; omega
 have hu:numUp f 1 s < 4294967296:=numUp_lt32 f 1 s hs4 (fun q hq=>hf (1+q) (by omega))
 have m0:(0:Int) < (m:Int):=by omega
 have m1:(1:Int)≤(m:Int):=by omega
 have m2:(m:Int)≤(c:Int):=by omega
 have m3:(s:Int)≤((m - 1:Nat):Int):=by omega
 have m4:(s:Int)≤((c - 1:Nat):Int):=by omega
 have m5:((m - 1:Nat):Int)≤((c - 1:Nat):Int):=by omega
 have d32:decide ((32:Int) < (n:Int))=false:=decide_eq_false (by omega)
 have ds:decide (m - 1 < s)=false:=decide_eq_false (by omega)
 have HC:=hide hcell
 have HF:=hide hf
 have HU:=hide hu
 have HS:=hide hs
 clear hcell hf hu hs hn
 go_enter Tryz.func67,Tryz.ntmps67
 go_wp2_with ((go_at_call 93; refine (bytesFor_any n _ (by omega)).mono ?_; rw [HS.out]; rintro e w1 ⟨rfl,rfl⟩))
 go_loop [7,33] (fun r i=>∃ k x:Nat,k≤s∧i=.int .i64 k∧r=.int .u32 (x:Int)∧Hid (x=numUp f 1 k)) (fun _ i=>s - (intOf i).toNat)
 case atStart=>exact ⟨0,0,Nat.zero_le _,rfl,rfl,rfl⟩
 case round =>
  obtain ⟨k,x,hk,rfl,rfl,HX⟩:=hrel
  by_cases hlt2:k < s
  ·have hck:w.cell? ⟨b,o+1+k,none⟩=some (.int .u8 (f (1+k):Int)):=by rw [Nat.add_assoc]; exact HC.out (1+k) (by omega)
   have hfk:=HF.out (1+k) (by omega)
   have hx:x < 4294967296:=by rw [HX.out]; exact numUp_lt32 f 1 k (by omega) (fun q hq=>HF.out (1+q) (by omega))
   have hk0:(0:Int)≤(k:Int):=Int.natCast_nonneg _
   have hk1:(k:Int) < (s:Int):=by omega
   have hk4:k < 4:=by omega
   have HV:=hide (or_val f k x hk4 hfk hx HX.out)
   generalize f (1+k)=y at *
   have hsh:(8 * (3 - k):Nat) < 32:=by omega
   generalize hq:8 * (3 - k)=q at *
   go_wp2_with ((go_at_call 94; refine (fshift_any k _ hk4).mono ?_; rw [hq]; rintro e w1 ⟨rfl,rfl⟩))
   exact ⟨⟨k+1,numUp f 1 (k+1),by omega,by go_num,int_eq HV.out,rfl⟩,by simp [intOf]; omega⟩
  ·have hks:k=s:=by omega
   subst hks
   clear hlt2 hk
   have HM:Hid (x < 4294967296):=by show x < 4294967296; rw [HX.out]; exact HU.out
   go_wp2_with ((go_at_call 95; refine (make_in x n _ HM.out hn32).mono ?_; rintro e w1 ⟨rfl,hb⟩; unfold pfx; have r0:w1.cell? ⟨w.heap.size,0,none⟩=some (.int .u32 0):=(by rw [hb.cell (p:=⟨w.heap.size,0,none⟩) (by simp)]; simp [go_sem]); have r1:w1.cell? ⟨w.heap.size,1,none⟩=some (.int .i64 0):=(by rw [hb.cell (p:=⟨w.heap.size,1,none⟩) (by simp)]; simp [go_sem]); have z0:w1.frozen? ⟨w.heap.size,0,none⟩=false:=(by rw [hb.frozen (p:=⟨w.heap.size,0,none⟩) (by simp)]; simp [go_sem]); have z1:w1.frozen? ⟨w.heap.size,1,none⟩=false:=(by rw [hb.frozen (p:=⟨w.heap.size,1,none⟩) (by simp)]; simp [go_sem]); have hz:w.heap.size < w1.heap.size:=(by have:=hb.size; simp at this; omega); have HB:=hide hb; clear hb))
   go_region
   generalize ha1:(if c - 1=k then some (⟨b,o+1,none⟩:Addr) else some ⟨b,o+1+k,none⟩)=a1
   have HA1:=hide ha1
   clear ha1
   go_wp2
   refine bodyPost_ret (v:=.tuple #[.agg #[.int .u32 (cutTo x n:Int),.int .i64 (n:Int)],.slice a1 (m - 1 - k) (c - 1 - k),.bool true]) (by simp [results,Tryz.results67,go_sem,r0,r1,hz]) rfl ⟨_,_,by rw [HX.out]; rfl,by omega,fun h=>by rw [← HA1.out,if_neg (by omega),Nat.add_assoc],?_⟩
   exact ((((((Below.refl _ _).alloc (Nat.le_refl _) _).trans (HB.out.mono (by simp))).setCell (Nat.le_refl _) _).setCell (Nat.le_refl _) _).alloc (by simp; omega) _).drew
set_option maxHeartbeats 1600000 in
theorem first_one (b o:Nat)(w:World)(h0:w.cell? ⟨b,o,none⟩=some (.int .u8 0)) :
  Calls Tryz.prog 67 #[.slice (some ⟨b,o,none⟩) 1 1] w fun e w'=>∃ a' c',e=.returned (.tuple #[pfx 0 0,.slice a' 0 c',.bool true])∧Below w.heap.size w w':=by
 have hlt:=World.block_lt_of_cell? w _ h0
 simp only at hlt
 have HM:Hid (cutTo 0 0=0):=cutTo_none 0 (by omega)
 have HS:Hid (szOf 0=0):=rfl
 go_enter Tryz.func67,Tryz.ntmps67
 go_wp2_with ((go_at_call 93; refine (bytesFor_any 0 _ (by omega)).mono ?_; rw [HS.out]; rintro e w1 ⟨rfl,rfl⟩))
 go_loop [7,33] (fun r i=>i=.int .i64 0∧r=.int .u32 0) (fun _ i=>0 - (intOf i).toNat)
 case atStart=>exact ⟨rfl,rfl⟩
 case round =>
  obtain ⟨rfl,rfl⟩:=hrel
  go_wp2_with ((go_at_call 95; refine (make_in 0 0 _ (by omega) (by omega)).mono ?_; rw [HM.out]; rintro e w1 ⟨rfl,hb⟩; unfold pfx; have r0:w1.cell? ⟨w.heap.size,0,none⟩=some (.int .u32 0):=(by rw [hb.cell (p:=⟨w.heap.size,0,none⟩) (by simp)]; simp [go_sem]); have r1:w1.cell? ⟨w.heap.size,1,none⟩=some (.int .i64 0):=(by rw [hb.cell (p:=⟨w.heap.size,1,none⟩) (by simp)]; simp [go_sem]); have z0:w1.frozen? ⟨w.heap.size,0,none⟩=false:=(by rw [hb.frozen (p:=⟨w.heap.size,0,none⟩) (by simp)]; simp [go_sem]); have z1:w1.frozen? ⟨w.heap.size,1,none⟩=false:=(by rw [hb.frozen (p:=⟨w.heap.size,1,none⟩) (by simp)]; simp [go_sem]); have hz:w.heap.size < w1.heap.size:=(by have:=hb.size; simp at this; omega); have HB:=hide hb; clear hb))
  go_region
  go_wp2
  refine bodyPost_ret (v:=.tuple #[.agg #[.int .u32 0,.int .i64 0],.slice (some ⟨b,o,none⟩) 0 0,.bool true]) (by simp [results,Tryz.results67,go_sem,r0,r1,hz]) rfl ⟨_,_,rfl,?_⟩
  exact ((((((Below.refl _ _).alloc (Nat.le_refl _) _).trans (HB.out.mono (by simp))).setCell (Nat.le_refl _) _).setCell (Nat.le_refl _) _).alloc (by simp; omega) _).drew
theorem okAt_shift (f:Nat→Nat)(len i:Nat)(hi:i≤len):okAt (fun j=>f (i+j)) (len - i) 0=okAt f len i:=by
 unfold okAt
 rw [Bool.eq_iff_iff]
 simp only [Nat.add_zero,decide_eq_true_eq]
 omega
theorem first_at (b off len i c:Nat)(f:Nat→Nat)(w:World)(hi:i < len)(hc:len - i≤c)(hl:len≤100000)(hf:∀ j,j < len→f j < 256)(hcell:∀ j,j < len→w.cell? ⟨b,off+j,none⟩=some (.int .u8 (f j:Int)))(hk:okAt f len i=true) :
  Calls Tryz.prog 67 #[.slice (some ⟨b,off+i,none⟩) (len - i) c] w fun e w'=>∃ a' c',e=.returned (.tuple #[pfx (itemAt f i).1 ((itemAt f i).2:Nat),.slice a' (len - (i+1+szOf (f i))) c',.bool true])∧len - (i+1+szOf (f i))≤c'∧(i+1+szOf (f i) < len→a'=some ⟨b,off+(i+1+szOf (f i)),none⟩)∧Below w.heap.size w w':=by
 obtain ⟨h1,h2⟩:=of_decide_eq_true hk
 have hn:numUp (fun j=>f (i+j)) 1 (szOf (f i))=numUp f (i+1) (szOf (f i)):=numUp_congr _ _ _ _ _ (fun q _=>by show f (i+(1+q))=f (i+1+q); rw [Nat.add_assoc])
 by_cases hc1:c=1
 ·subst hc1
  have e1:len - i=1:=by omega
  have e2:f i=0:=by unfold szOf at h2; omega
  have h0:=hcell i hi
  rw [e2] at h0
  rw [e1]
  refine (first_one b (off+i) w h0).mono ?_
  rintro e w' ⟨a',c',rfl,hb⟩
  refine ⟨a',c',?_,by rw [e2]; omega,fun h=>by rw [e2] at h; omega,hb⟩
  have e3:itemAt f i=(0,0):=by
   unfold itemAt
   rw [e2]
   show (cutTo (numUp f (i+1) 0) 0,0)=(0,0)
   rw [numUp,cutTo_none 0 (by omega)]
  rw [e3,e2,show len - (i+1+szOf 0)=0 from by omega]
  rfl
 ·refine (first_yes b (off+i) (len - i) c (fun j=>f (i+j)) w hc (by omega) (fun j hj=>hf (i+j) (by omega)) (fun j hj=>by rw [Nat.add_assoc]; exact hcell (i+j) (by omega)) (f i) (szOf (f i)) rfl rfl h1 (by omega) hc1).mono ?_
  rintro e w' ⟨a',c',rfl,hc',ha',hb⟩
  refine ⟨a',c',?_,by omega,fun h=>by rw [ha' (by omega)]; congr 2; omega,hb⟩
  rw [hn,show len - i - 1 - szOf (f i)=len - (i+1+szOf (f i)) from by omega]
  rfl
theorem first_bad (b off len i c:Nat)(f:Nat→Nat)(w:World)(hi:i < len)(hc:len - i≤c)(hl:len≤100000)(hf:∀ j,j < len→f j < 256)(hcell:∀ j,j < len→w.cell? ⟨b,off+j,none⟩=some (.int .u8 (f j:Int)))(hk:okAt f len i=false) :
  Calls Tryz.prog 67 #[.slice (some ⟨b,off+i,none⟩) (len - i) c] w fun e w'=>e=.returned (.tuple #[pfx 0 0,.slice none 0 0,.bool false])∧Below w.heap.size w w' :=
 first_no b (off+i) (len - i) c (fun j=>f (i+j)) w (by omega) hc (by omega) (hf i hi) (hcell i hi) (by rw [okAt_shift f len i (by omega)]; exact hk)
def DecRes (w w':World)(r:Option (List (Nat×Nat)))(e:Ending):Prop :=
 match r with
 | none=>e=.returned (.tuple #[.slice none 0 0,.bool false])
 | some ps=>∃ v,e=.returned (.tuple #[v,.bool true])∧w'.ownsRow w.heap.size 96 2 v ps.length (pcells ps)
set_option maxHeartbeats 1600000 in
theorem decode_some (b off len cap:Nat)(f:Nat→Nat)(w:World)(hl:len≤100000)(hlc:len≤cap)(hf:∀ j,j < len→f j < 256)(hcell:∀ j,j < len→w.cell? ⟨b,off+j,none⟩=some (.int .u8 (f j:Int))) :
  Calls Tryz.prog 45 #[.slice (some ⟨b,off,none⟩) len cap] w fun e w'=>DecRes w w' (decRun f len 0 []) e∧Below w.heap.size w w':=by
 have HC:=hide hcell
 have HF:=hide hf
 clear hcell hf
 go_enter Tryz.func45,Tryz.ntmps45
 go_wp2
 go_loopw [0,4] (fun s v wq=>∃ (i:Nat) (acc:List (Nat×Nat)) (a':Option Addr) (c' r:Nat),s=.slice a' r c'∧r=len - i∧i≤len∧r≤c'∧Hid (i < len→a'=some ⟨b,off+i,none⟩)∧Hid (wq.ownsRow w.heap.size 96 2 v acc.length (pcells acc))∧Hid (Below w.heap.size w wq)∧Hid (decRun f len 0 []=decRun f len i acc)∧acc.length≤i) (fun s _ _=>sliceLen s)
 case atStart=>exact ⟨0,[],_,cap,len,rfl,rfl,Nat.zero_le _,hlc,fun _=>rfl,own_nil _ _ _ _,Below.refl _ _,rfl,Nat.le_refl _⟩
 case round =>
  obtain ⟨i,acc,a',c',r,rfl,hr,hi,hrc,HA,HO,HB,HE,hal⟩:=hrel
  by_cases hlt:i < len
  ·have ha:=HA.out hlt
   subst ha
   have hr0:(0:Int) < (r:Int):=by omega
   have hcw:Hid (∀ j,j < len→wr.cell? ⟨b,off+j,none⟩=some (.int .u8 (f j:Int))):=fun j hj=>by
    rw [(Keeps.of_below HB.out (fun _=>False)).cell _ (World.block_lt_of_cell? w _ (HC.out j hj)) (fun h=>h)]
    exact HC.out j hj
   have HRR:=hide hr
   have hrl:r≤len:=by omega
   clear hr HA
   cases hk:okAt f len i with
   | false =>
    have HN:Hid (decRun f len 0 []=none):=by show decRun f len 0 []=none; rw [HE.out,decRun_no hlt hk]
    have HK:=hide hk
    clear hk
    go_wp2_with fail
    rw [HRR.out]
    refine (first_bad b off len i c' f wr hlt (by rw [← HRR.out]; exact hrc) hl HF.out hcw.out HK.out).mono ?_
    rintro e w1 ⟨rfl,hb⟩
    unfold pfx
    have HB1:Hid (Below w.heap.size w w1):=HB.out.trans (hb.mono HB.out.size)
    clear hb
    go_wp2
    go_ret2
    exact ⟨by rw [HN.out]; rfl,HB1.out.alloc HB1.out.size _⟩
   | true =>
    have HK:=hide hk
    clear hk
    go_wp2_with fail
    rw [HRR.out]
    refine (first_at b off len i c' f wr hlt (by rw [← HRR.out]; exact hrc) hl HF.out hcw.out HK.out).mono ?_
    rintro e w1 ⟨a2,c2,rfl,hc2,ha2,hb⟩
    unfold pfx
    have HB1:Hid (Below w.heap.size w w1):=HB.out.trans (hb.mono HB.out.size)
    have HO1:=hide (own_later HO.out hb)
    have HE1:Hid (decRun f len 0 []=decRun f len (i+1+szOf (f i)) (acc++[itemAt f i])):=by show decRun f len 0 []=_; rw [HE.out,decRun_go hlt HK.out]
    have HL2:Hid (i+1+szOf (f i)≤len):=(of_decide_eq_true HK.out).2
    clear hb HB HO HE HC
    have HC2:=hide hc2
    have HA2:=hide ha2
    clear hc2 ha2
    generalize hit:itemAt f i=it at *
    obtain ⟨A,n⟩:=it
    generalize hni:i+1+szOf (f i)=i2 at *
    have HNI:Hid (i < i2):=by show i < i2; omega
    clear hni hit
    generalize hr2:len - i2=r2 at *
    have HR2:=hide hr2
    clear hr2
    obtain ⟨v3,w3,hrun,hown3,hb3⟩:=app_new elemPfx (w:=w1.alloc (.cells #[.int .u32 (A:Int),.int .i64 (n:Int)] 96)) (HO1.out.alloc _) (by simp; have:=HB1.out.size; omega) 1 [.int .u32 (A:Int),.int .i64 (n:Int)] rfl (by simp [Value.oneCell']) (by omega) (w1.heap.size+1) (by simp)
    have HR3:=hide hrun
    have HO3:Hid (w3.ownsRow w.heap.size 96 2 v3 (acc++[(A,n)]).length (pcells (acc++[(A,n)]))):=by
     show w3.ownsRow _ _ _ _ _ _
     rw [pcells_snoc,List.length_append]
     exact hown3
    have HB3:Hid (Below w.heap.size w w3):=(HB1.out.alloc HB1.out.size _).trans hb3
    clear hrun hown3 hb3 HO1 HB1
    go_wp2_with ((with_reducible refine wpl_append _ _ 29 _ (.slice (some ⟨w1.heap.size+1,0,none⟩) 1 1) _ ?_ ?_ HR3.out ?_); (· rfl); (· rfl))
    exact ⟨⟨i2,acc++[(A,n)],a2,c2,r2,rfl,HR2.out.symm,HL2.out,HC2.out,HA2,HO3,HB3,HE1,by have:=HNI.out; simp; omega⟩,by have:=HNI.out; have:=HRR.out; have:=HR2.out; have:=HL2.out; simp [sliceLen]; omega⟩
  ·have HN:Hid (decRun f len 0 []=some acc):=by show decRun f len 0 []=some acc; rw [HE.out,decRun_end hlt]
   have hr0:r=0:=by omega
   subst hr0
   go_wp2
   go_ret2
   exact ⟨by rw [HN.out]; exact ⟨_,rfl,HO.out⟩,HB.out⟩
set_option maxHeartbeats 400000 in
theorem decode_empty (a:Option Addr)(cap:Nat)(f:Nat→Nat)(w:World) :
  Calls Tryz.prog 45 #[.slice a 0 cap] w fun e w'=>DecRes w w' (decRun f 0 0 []) e∧Below w.heap.size w w':=by
 have HN:Hid (decRun f 0 0 []=some []):=decRun_end (by omega)
 go_enter Tryz.func45,Tryz.ntmps45
 go_wp2
 go_loopw [0,4] (fun s v wq=>s=.slice a 0 cap∧v=.slice none 0 0∧wq=w) (fun s _ _=>sliceLen s)
 case atStart=>exact ⟨rfl,rfl,rfl⟩
 case round =>
  obtain ⟨rfl,rfl,rfl⟩:=hrel
  go_wp2
  go_ret2
  exact ⟨by rw [HN.out]; exact ⟨_,rfl,own_nil _ _ _ _⟩,Below.refl _ _⟩
theorem fdecode_any (a:Option Addr)(len cap:Nat)(f:Nat→Nat)(w:World)(hl:len≤100000)(hlc:len≤cap)(hf:∀ j,j < len→f j < 256)(h:Rw w a len f) :
  Calls Tryz.prog 45 #[.slice a len cap] w fun e w'=>DecRes w w' (decRun f len 0 []) e∧Below w.heap.size w w':=by
 by_cases h0:len=0
 ·subst h0; exact decode_empty a cap f w
 ·obtain ⟨b,off,rfl,hc⟩:=h.2 (by omega)
  exact decode_some b off len cap f w hl hlc hf hc
def padded (f:Nat→Nat)(j k:Nat):Nat→Nat:=fun q=>if q < k then f (j+q) else 0
theorem numUp_pad (f:Nat→Nat)(j k:Nat):∀ d,numUp (padded f j k) 0 (k+d)=numUp f j k
 | 0=>numUp_congr _ _ _ _ _ (fun q hq=>by show padded f j k (0+q)=_; rw [Nat.zero_add]; unfold padded; rw [if_pos (by omega)])
 | d+1=>by
  show numUp (padded f j k) 0 (k+d)+padded f j k (0+(k+d)) * _=_
  rw [numUp_pad f j k d]
  have:padded f j k (0+(k+d))=0:=by unfold padded; rw [if_neg (by omega)]
  rw [this,Nat.zero_mul,Nat.add_zero]
theorem num_pad (f:Nat→Nat)(j k:Nat)(hk:k≤4):num (padded f j k)=numUp f j k:=by
 rw [num_up,show 4=k+(4 - k) from by omega,numUp_pad]
def listOf (f:Nat→Nat)(j k:Nat):List Nat:=(List.range k).map fun q=>f (j+q)
theorem listOf_get (f:Nat→Nat)(j k q:Nat)(h:q < k):(bcells (listOf f j k))[q]?=some (.int .u8 (f (j+q):Int)):=by simp [bcells,listOf,h]
theorem pad_get (f:Nat→Nat)(j s q:Nat)(hq:q < 4):(([]++bcells (listOf f j s))++[Value.int .u8 0,.int .u8 0,.int .u8 0,.int .u8 0])[q]?=some (.int .u8 (padded f j s q:Int)):=by
 have hl:(bcells (listOf f j s)).length=s:=by rw [bcells_length]; simp [listOf]
 rw [List.nil_append]
 unfold padded
 by_cases h:q < s
 ·rw [List.getElem?_append_left (by omega),listOf_get _ _ _ _ h,if_pos h]
 ·rw [List.getElem?_append_right (by omega),hl,if_neg h]
  have:q - s=0∨q - s=1∨q - s=2∨q - s=3:=by omega
  rcases this with e | e | e | e <;> rw [e] <;> rfl
theorem read_four (wr:World)(ad:Addr)(s cp j:Nat)(f:Nat→Nat)(hs:s≤1000)(hc:∀ q,q < s→wr.cell? (ad.add q)=some (.int .u8 (f (j+q):Int))) :
  ∃ v2 w2 g3 cap3 w3,(Builtin.append_ #[22,22] 22 #[.slice (some ⟨wr.heap.size,0,none⟩) 0 0,.slice (some ad) s cp]).run Tryz.prog (wr.alloc (.cells #[] 5))=.ok v2 w2 ∧
   (Builtin.append_ #[22,22] 22 #[v2,.slice (some ⟨w2.heap.size,0,none⟩) 4 4]).run Tryz.prog (w2.alloc (.cells #[.int .u8 0,.int .u8 0,.int .u8 0,.int .u8 0] 5))=.ok (.slice (some ⟨g3,0,none⟩) (s+4) cap3) w3 ∧
   (∀ q,q < 4→w3.cell? ⟨g3,0+q,none⟩=some (.int .u8 (padded f j s q:Int)))∧Below wr.heap.size wr w3:=by
 have hown:=World.ownsRow_lit (base:=wr.heap.size) (e:=5) (size:=1) wr #[] 0 (Nat.le_refl _) (by unfold maxLen; omega) rfl
 obtain ⟨v2,w2,hrun2,hown2,hb2⟩:=app_old elemU8 hown (by simp) ad s cp (bcells (listOf f j s)) (by rw [bcells_length]; simp [listOf]) (fun q u hu=>by
  have hq:q < s:=by
   have:=(List.getElem?_eq_some_iff.1 hu).1
   rw [bcells_length] at this
   simpa [listOf] using this
  rw [listOf_get _ _ _ _ hq] at hu
  rw [World.cell?_alloc_lt _ _ _ (World.block_lt_of_cell? wr _ (hc q hq)),hc q hq,hu]) (bcells_one _) (by omega)
 have hb2':Below wr.heap.size wr w2:=((Below.refl _ _).alloc (Nat.le_refl _) _).trans hb2
 obtain ⟨v3,w3,hrun3,hown3,hb3⟩:=app_new elemU8 hown2 hb2'.size 4 [.int .u8 0,.int .u8 0,.int .u8 0,.int .u8 0] rfl (by simp [Value.oneCell']) (by omega) w2.heap.size rfl
 rw [Nat.zero_add] at hown3
 obtain ⟨g3,cap3,rfl,_,_⟩:=hown3.form (by omega)
 exact ⟨v2,w2,g3,cap3,w3,hrun2,hrun3,fun q hq=>by rw [Nat.zero_add,hown3.cellAt q (by omega)]; exact pad_get f j s q hq,hb2'.trans hb3⟩
theorem read_if (b off cap len i s:Nat)(f:Nat→Nat)(wr:World)(hs:s≤1000)(hlc:len≤cap)(ho:i+1+s≤len)(hc:∀ j,j < len→wr.cell? ⟨b,off+j,none⟩=some (.int .u8 (f j:Int))) :
  ∃ v2 w2 g3 cap3 w3,(Builtin.append_ #[22,22] 22 #[.slice (some ⟨wr.heap.size,0,none⟩) 0 0,.slice (if cap=i+1 then some ⟨b,off,none⟩ else some ⟨b,off+(i+1),none⟩) (i+1+s - (i+1)) (cap - (i+1))]).run Tryz.prog (wr.alloc (.cells #[] 5))=.ok v2 w2 ∧
   (Builtin.append_ #[22,22] 22 #[v2,.slice (some ⟨w2.heap.size,0,none⟩) 4 4]).run Tryz.prog (w2.alloc (.cells #[.int .u8 0,.int .u8 0,.int .u8 0,.int .u8 0] 5))=.ok (.slice (some ⟨g3,0,none⟩) (s+4) cap3) w3 ∧
   (∀ q,q < 4→w3.cell? ⟨g3,0+q,none⟩=some (.int .u8 (padded f (i+1) s q:Int)))∧Below wr.heap.size wr w3:=by
 rw [show i+1+s - (i+1)=s from by omega]
 by_cases h:cap=i+1
 ·rw [if_pos h]
  exact read_four wr ⟨b,off,none⟩ s (cap - (i+1)) (i+1) f hs (fun q hq=>absurd hq (by omega))
 ·rw [if_neg h]
  exact read_four wr ⟨b,off+(i+1),none⟩ s (cap - (i+1)) (i+1) f hs (fun q hq=>by rw [Addr.add_mid,Nat.add_assoc]; exact hc (i+1+q) (by omega))
set_option maxHeartbeats 3200000 in
theorem fread_some (b off len cap:Nat)(f:Nat→Nat)(w:World)(hl:len≤100000)(hlc:len≤cap)(hf:∀ j,j < len→f j < 256)(hcell:∀ j,j < len→w.cell? ⟨b,off+j,none⟩=some (.int .u8 (f j:Int))) :
  Calls Tryz.prog 30 #[.slice (some ⟨b,off,none⟩) len cap] w fun e w'=>DecRes w w' (decRun f len 0 []) e∧Below w.heap.size w w':=by
 have HC:=hide hcell
 have HF:=hide hf
 clear hcell hf
 go_enter Tryz.func30,Tryz.ntmps30
 go_wp2
 go_loopw [4,5] (fun v s wq=>∃ (i:Nat) (acc:List (Nat×Nat)),s=.int .i64 (i:Int)∧i≤len∧Hid (wq.ownsRow w.heap.size 96 2 v acc.length (pcells acc))∧Hid (Below w.heap.size w wq)∧Hid (decRun f len 0 []=decRun f len i acc)∧acc.length≤i) (fun _ s _=>len - (intOf s).toNat)
 case atStart=>exact ⟨0,[],rfl,Nat.zero_le _,own_nil _ _ _ _,Below.refl _ _,rfl,Nat.le_refl _⟩
 case round =>
  obtain ⟨i,acc,rfl,hi,HO,HB,HE,hal⟩:=hrel
  by_cases hlt:i < len
  ·have hcw:Hid (∀ j,j < len→wr.cell? ⟨b,off+j,none⟩=some (.int .u8 (f j:Int))):=fun j hj=>by
    rw [(Keeps.of_below HB.out (fun _=>False)).cell _ (World.block_lt_of_cell? w _ (HC.out j hj)) (fun h=>h)]
    exact HC.out j hj
   have hci:=hcw.out i hlt
   have hfi:=HF.out i hlt
   have hi0:(0:Int)≤(i:Int):=Int.natCast_nonneg _
   have hi1:(i:Int) < (len:Int):=by omega
   cases hk:okAt f len i with
   | false =>
    have HN:Hid (decRun f len 0 []=none):=by show decRun f len 0 []=none; rw [HE.out,decRun_no hlt hk]
    have hok:=of_decide_eq_false hk
    clear hk
    unfold szOf at hok
    generalize f i=n at *
    by_cases h32:32 < n
    ·have i32:(32:Int) < (n:Int):=by omega
     clear hok h32
     go_wp2
     go_ret2
     exact ⟨by rw [HN.out]; rfl,HB.out⟩
    ·have d32:decide ((32:Int) < (n:Int))=false:=decide_eq_false (by omega)
     have hs:(len:Int) < (i:Int)+1+((n:Int)+7) / 8:=by omega
     clear hok h32
     go_wp2
     go_ret2
     exact ⟨by rw [HN.out]; rfl,HB.out⟩
   | true =>
    obtain ⟨ho1,ho2⟩:=of_decide_eq_true hk
    have HE1:Hid (decRun f len 0 []=decRun f len (i+1+szOf (f i)) (acc++[itemAt f i])):=by show decRun f len 0 []=_; rw [HE.out,decRun_go hlt hk]
    have HIT:Hid (itemAt f i=(cutTo (num (padded f (i+1) (szOf (f i)))) (f i),f i)):=by show itemAt f i=_; rw [num_pad _ _ _ (szOf_le _ ho1)]; rfl
    clear hk HE
    have hs4:=szOf_le _ ho1
    have hse:((f i:Int)+7) / 8=((szOf (f i):Nat):Int):=by unfold szOf; omega
    have HPF:Hid (∀ q,q < 4→padded f (i+1) (szOf (f i)) q < 256):=fun q _=>by
     unfold padded
     split
     ·exact HF.out _ (by omega)
     ·omega
    generalize hit:itemAt f i=it at *
    clear hit
    generalize hn:f i=n at *
    clear hn
    generalize hs:szOf n=s at *
    clear hs
    have hx:num (padded f (i+1) s) < 4294967296:=by
     rw [num_pad _ _ _ hs4]
     exact numUp_lt32 f (i+1) s hs4 (fun q hq=>HF.out _ (by omega))
    have d32:decide ((32:Int) < (n:Int))=false:=decide_eq_false (by omega)
    have ds:decide ((len:Int) < (i:Int)+1+(s:Int))=false:=decide_eq_false (by omega)
    have b1:(i:Int)+1+(s:Int)≤(cap:Int):=by omega
    have HX:=hide hx
    clear hx
    obtain ⟨v2,w2,g3,cap3,w3,hR2,hR3,hN3,hg3⟩:=read_if b off cap len i s f wr (by omega) hlc ho2 hcw.out
    have HR2:=hide hR2
    have HR3:=hide hR3
    have HN3:=hide hN3
    have HO3:=hide (own_later HO.out hg3)
    have HB3:Hid (Below w.heap.size w w3):=HB.out.trans (hg3.mono HB.out.size)
    clear hg3 hR2 hR3 hN3 HO HB
    go_wp2_with (first
     | ((with_reducible refine wpl_append _ _ 22 (.slice (some ⟨wr.heap.size,0,none⟩) 0 0) (.slice (if cap=i+1 then some ⟨b,off,none⟩ else some ⟨b,off+(i+1),none⟩) (i+1+s - (i+1)) (cap - (i+1))) _ ?_ ?_ HR2.out ?_); (· rfl); (· rfl); (generalize (if cap=i+1 then some (⟨b,off,none⟩:Addr) else some ⟨b,off+(i+1),none⟩)=q42))
     | ((with_reducible refine wpl_append _ _ 22 v2 (.slice (some ⟨w2.heap.size,0,none⟩) 4 4) _ ?_ ?_ HR3.out ?_); (· rfl); (· rfl)))
    refine (num_eq g3 0 (s+4) cap3 _ w3 (by omega) HPF.out HN3.out).mono ?_
    rintro e w4 ⟨rfl,k4,rfl⟩
    have HB4:=hide (below_drewN HB3.out k4)
    have HO4:=hide (own_later HO3.out (below_drewN (Below.refl _ _) k4))
    generalize w3.drewN k4=w4 at *
    clear HB3 HO3 HN3 HR2 HR3
    generalize num (padded f (i+1) s)=x at *
    have hx:=HX.out
    go_wp2_with fail
    refine (rmake_in x n _ HX.out ho1).mono ?_
    rintro e w5 ⟨rfl,hb5⟩
    unfold pfx
    have HB5:Hid (Below w.heap.size w w5):=HB4.out.trans (hb5.mono HB4.out.size)
    have HO5:=hide (own_later HO4.out hb5)
    clear hb5 HB4 HO4
    generalize cutTo x n=A at *
    obtain ⟨v6,w6,hrun6,hown6,hb6⟩:=app_new elemPfx (w:=w5.alloc (.cells #[.int .u32 (A:Int),.int .i64 (n:Int)] 96)) (HO5.out.alloc _) (by simp; have:=HB5.out.size; omega) 1 [.int .u32 (A:Int),.int .i64 (n:Int)] rfl (by simp [Value.oneCell']) (by omega) (w5.heap.size+1) (by simp)
    have HR6:=hide hrun6
    have HO6:Hid (w6.ownsRow w.heap.size 96 2 v6 (acc++[(A,n)]).length (pcells (acc++[(A,n)]))):=by
     show w6.ownsRow _ _ _ _ _ _
     rw [pcells_snoc,List.length_append]
     exact hown6
    have HB6:Hid (Below w.heap.size w w6):=(HB5.out.alloc HB5.out.size _).trans hb6
    clear hrun6 hown6 hb6 HO5 HB5
    go_wp2_with ((with_reducible refine wpl_append _ _ 29 _ (.slice (some ⟨w5.heap.size+1,0,none⟩) 1 1) _ ?_ ?_ HR6.out ?_); (· rfl); (· rfl))
    exact ⟨⟨i+1+s,acc++[(A,n)],by go_num,ho2,HO6,HB6,by rw [← HIT.out]; exact HE1,by simp; omega⟩,by simp [intOf]; omega⟩
  ·have HN:Hid (decRun f len 0 []=some acc):=by show decRun f len 0 []=some acc; rw [HE.out,decRun_end hlt]
   go_wp2
   go_ret2
   exact ⟨by rw [HN.out]; exact ⟨_,rfl,HO.out⟩,HB.out⟩
theorem pcells_get (ps:List (Nat×Nat)):∀ (i:Nat) (p:Nat×Nat),ps[i]?=some p→(pcells ps)[i * 2]?=some (.int .u32 (p.1:Int))∧(pcells ps)[i * 2+1]?=some (.int .i64 (p.2:Int)):=by
 induction ps with
 | nil=>intro i p h; simp at h
 | cons a l ih =>
  intro i p h
  cases i with
  | zero=>simp at h; subst h; exact ⟨rfl,rfl⟩
  | succ i =>
   have:=ih i p (by simpa using h)
   rw [show (i+1) * 2=i * 2+1+1 from by omega]
   simpa [pcells] using this
set_option maxHeartbeats 800000 in
theorem samep_some (g1 g2 n c1 c2:Nat)(A:Nat→Nat)(N:Nat→Nat)(w:World)(hn:n≤100000)
  (h1:∀ i,i < n→w.cell? ⟨g1,0+i * 2,none⟩=some (.int .u32 (A i:Int))∧w.cell? ⟨g1,0+i * 2+1,none⟩=some (.int .i64 (N i:Int)))
  (h2:∀ i,i < n→w.cell? ⟨g2,0+i * 2,none⟩=some (.int .u32 (A i:Int))∧w.cell? ⟨g2,0+i * 2+1,none⟩=some (.int .i64 (N i:Int))) :
  Calls Tryz.prog 32 #[.slice (some ⟨g1,0,none⟩) n c1,.slice (some ⟨g2,0,none⟩) n c2] w fun e w'=>e=.returned (.bool true)∧∃ m,w'=w.drewN m:=by
 have H1:=hide h1
 have H2:=hide h2
 clear h1 h2
 go_enter Tryz.func32,Tryz.ntmps32
 go_wp2
 go_loopw [5] (fun i wq=>∃ k m:Nat,k≤n∧i=.int .i64 k∧Hid (wq=w.drewN m)) (fun i _=>n - (intOf i).toNat)
 case atStart=>exact ⟨0,0,Nat.zero_le _,rfl,rfl⟩
 case round =>
  obtain ⟨k,m,hk,rfl,HW⟩:=hrel
  by_cases hlt:k < n
  ·have a0:wr.cell? ⟨g1,k * 2,none⟩=some (.int .u32 (A k:Int)):=by rw [HW.out,cell_drewN]; have:=(H1.out k hlt).1; rwa [Nat.zero_add] at this
   have a1:wr.cell? ⟨g1,k * 2+1,none⟩=some (.int .i64 (N k:Int)):=by rw [HW.out,cell_drewN]; have:=(H1.out k hlt).2; rwa [Nat.zero_add] at this
   have b0:wr.cell? ⟨g2,k * 2,none⟩=some (.int .u32 (A k:Int)):=by rw [HW.out,cell_drewN]; have:=(H2.out k hlt).1; rwa [Nat.zero_add] at this
   have b1:wr.cell? ⟨g2,k * 2+1,none⟩=some (.int .i64 (N k:Int)):=by rw [HW.out,cell_drewN]; have:=(H2.out k hlt).2; rwa [Nat.zero_add] at this
   have hk0:(0:Int)≤(k:Int):=Int.natCast_nonneg _
   have hk1:(k:Int) < (n:Int):=by omega
   generalize A k=x at *
   generalize N k=y at *
   go_wp2_with fail
   go_quiet (fail)
   go_wp2
   exact ⟨⟨k+1,m+nq,by omega,by go_num,show wr.drewN nq=_ by rw [HW.out,drewN_more]⟩,by simp [intOf]; omega⟩
  ·go_wp2
   go_ret
   exact ⟨rfl,m,HW.out⟩
set_option maxHeartbeats 400000 in
theorem samep_empty (a1 a2:Option Addr)(c1 c2:Nat)(w:World) :
  Calls Tryz.prog 32 #[.slice a1 0 c1,.slice a2 0 c2] w fun e w'=>e=.returned (.bool true)∧∃ m,w'=w.drewN m:=by
 go_enter Tryz.func32,Tryz.ntmps32
 go_wp2
 go_loopw [5] (fun i wq=>i=.int .i64 0∧wq=w) (fun i _=>0 - (intOf i).toNat)
 case atStart=>exact ⟨rfl,rfl⟩
 case round =>
  obtain ⟨rfl,rfl⟩:=hrel
  go_wp2
  go_ret
  exact ⟨rfl,0,rfl⟩
theorem samep_any {w:World}{B1 B2:Nat}{v1 v2:Value}{ps:List (Nat×Nat)} (h1:w.ownsRow B1 96 2 v1 ps.length (pcells ps)) (h2:w.ownsRow B2 96 2 v2 ps.length (pcells ps)) (hl:ps.length≤100000) :
  Calls Tryz.prog 32 #[v1,v2] w fun e w'=>e=.returned (.bool true)∧∃ m,w'=w.drewN m:=by
 by_cases h0:ps.length=0
 ·obtain ⟨a1,c1,rfl⟩:=own_shape h1
  obtain ⟨a2,c2,rfl⟩:=own_shape h2
  rw [h0]
  exact samep_empty a1 a2 c1 c2 w
 ·obtain ⟨g1,c1,rfl,_,_⟩:=h1.form (by omega)
  obtain ⟨g2,c2,rfl,_,_⟩:=h2.form (by omega)
  refine samep_some g1 g2 ps.length c1 c2 (fun i=>(ps.getD i (0,0)).1) (fun i=>(ps.getD i (0,0)).2) w hl (fun i hi=>?_) (fun i hi=>?_)
  ·have e:ps[i]?=some (ps.getD i (0,0)):=by simp [List.getD_eq_getElem?_getD,hi]
   obtain ⟨x,y⟩:=pcells_get ps i _ e
   rw [Nat.zero_add,h1.cellAt (i * 2) (by omega),h1.cellAt (i * 2+1) (by omega)]
   exact ⟨x,y⟩
  ·have e:ps[i]?=some (ps.getD i (0,0)):=by simp [List.getD_eq_getElem?_getD,hi]
   obtain ⟨x,y⟩:=pcells_get ps i _ e
   rw [Nat.zero_add,h2.cellAt (i * 2) (by omega),h2.cellAt (i * 2+1) (by omega)]
   exact ⟨x,y⟩
end Go.Proofs.YtogbjeaceboemaaGreatDoor
