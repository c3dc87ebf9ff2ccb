import Derived.Test.YtogbjeaceboemaaGreatDoorPA4
import Derived.Test.YtogbjeaceboemaaGreatDoorPA3
import Derived.Recover
import Derived.Laws.BitsAllLaws
import Derived.Deep.RegionWith
namespace Go.Proofs.YtogbjeaceboemaaGreatDoor
set_option linter.unnecessarySimpa false
open Go.RowKit
set_option maxRecDepth 100000
theorem eqlB_nil (a:Option Addr)(l c:Nat)(w:World):(binOp .eql 22 (.slice a l c) (.slice none 0 0)).run Tryz.prog w=.ok (.bool a.isNone) w:=by
 simp only [binOp]
 simp [run_equal_slice_nil w 22 5 a l c Tryz.underlying22]
section
attribute [local go_sem ↓] kept_append
attribute [local go_sem] eqlB_nil
set_option maxHeartbeats 1600000 in
theorem clone_any (a:Option Addr)(cap:Nat)(d:List Nat)(w:World)(hl:d.length≤100000)(h:BRd w a d) :
  Calls Tryz.prog 60 #[.slice a d.length cap] w fun e w'=>∃ a9 c9,e=.returned (.slice a9 d.length c9)∧w'.ownsRow w.heap.size 5 1 (.slice a9 d.length c9) d.length (bcells d)∧Below w.heap.size w w':=by
 cases a with
 | none =>
  have h0:d=[]:=by
   cases d with
   | nil=>rfl
   | cons z r=>obtain ⟨b,off,e,_⟩:=h.1.2 (by simp); cases e
  subst h0
  clear h
  go_enter Tryz.func60,Tryz.ntmps60
  go_wp2
  go_ret
  exact ⟨none,0,rfl,own_nil _ _ _ _,Below.refl _ _⟩
 | some ad =>
  have hb2:Below w.heap.size w (w.alloc (.cells #[] 5)):=(Below.refl _ _).alloc (Nat.le_refl _) _
  have hm:(w.alloc (.cells #[] 5)).ownsRow w.heap.size 5 1 (.slice (some ⟨w.heap.size,0,none⟩) 0 0) 0 (bcells []) :=
   ⟨rfl,.inr ⟨w.heap.size,0,_,rfl,Nat.le_refl _,by unfold World.alloc; exact Array.getElem?_push_size,Nat.le_refl _,by unfold maxLen; omega,rfl,rfl⟩⟩
  obtain ⟨v',w3,hr,ho,hb3⟩:=app_brd (n:=0) (ys:=[]) d (some ad) cap rfl hm hb2.size (by omega) (h.below hb2)
  obtain ⟨a9,c9,rfl⟩:=own_shape ho
  have hlen:(([]:List Nat)++d).length=d.length:=rfl
  rw [hlen] at hr
  have HO:Hid (w3.ownsRow w.heap.size 5 1 (.slice a9 d.length c9) d.length (bcells d)):=ho
  have HB:Hid (Below w.heap.size w w3):=hb2.trans hb3
  have HR:=hide hr
  clear hr ho hb3 hm hb2 h hlen
  generalize d.length=n at *
  go_enter Tryz.func60,Tryz.ntmps60
  go_wp2_with (refine kept_append_intro _ _ _ _ (.slice a9 n c9) (w':=w3) (by rfl) (by rfl) (by exact HR.out) ?_)
  go_ret
  exact ⟨a9,c9,rfl,HO.out,HB.out⟩
end
def thrown (s:Int)(a:Option Addr)(n c:Nat):Ending:=.panicked [{ v:=.iface 122 (.agg #[.int .i64 3,.int .i64 s,.slice a n c]),recovered:=false }]
def Throws (w w':World)(s:Int)(d:List Nat)(e:Ending):Prop:=∃ a9 c9,e=thrown s a9 d.length c9∧w'.ownsRow w.heap.size 5 1 (.slice a9 d.length c9) d.length (bcells d)∧Below w.heap.size w w'
set_option maxHeartbeats 1600000 in
theorem throw_any (s:Int)(a:Option Addr)(cap:Nat)(d:List Nat)(w:World)(hl:d.length≤100000)(h:BRd w a d) :
  Calls Tryz.prog 70 #[.int .i64 s,.slice a d.length cap] w fun e w'=>Throws w w' s d e:=by
 have K:=hide (clone_any a cap d w hl h)
 clear h
 unfold Throws
 generalize d.length=n at *
 go_enter Tryz.func70,Tryz.ntmps70
 go_wp2_with fail
 refine K.out.mono ?_
 rintro e w1 ⟨a9,c9,rfl,ho,hb⟩
 go_wp2
 exact ⟨rfl,a9,c9,rfl,ho,hb⟩
def partV (fl ty:Int)(a1:Option Addr)(n1 c1:Nat)(a2:Option Addr)(n2 c2:Nat):Value:=.agg #[.int .i64 fl,.int .i64 ty,.slice a1 n1 c1,.slice a2 n2 c2]
set_option maxHeartbeats 1600000 in
theorem refuse_yes (fl ty s:Int)(a1:Option Addr)(n1 c1:Nat)(a2:Option Addr)(n2 c2:Nat)(w:World) :
  Calls Tryz.prog 97 #[partV fl ty a1 n1 c1 a2 n2 c2,.bool true,.int .i64 s] w fun e w'=>e=.returned (.tuple #[])∧Below w.heap.size w w':=by
 unfold partV
 go_enter Tryz.func97,Tryz.ntmps97
 go_wp2
 go_end0
 exact ⟨rfl,(Below.refl _ _).alloc (Nat.le_refl _) _⟩
theorem Throws.from {w0 w w':World}{s:Int}{d:List Nat}{e:Ending} (h:Throws w w' s d e) (hb:Below w0.heap.size w0 w):Throws w0 w' s d e:=by
 obtain ⟨a9,c9,he,ho,hb2⟩:=h
 exact ⟨a9,c9,he,own_base ho hb.size,hb.trans (hb2.mono hb.size)⟩
set_option maxHeartbeats 1600000 in
theorem refuse_no (fl ty s:Int)(a1:Option Addr)(n1 c1:Nat)(a2:Option Addr)(c2:Nat)(d:List Nat)(w:World)(hl:d.length≤100000)(h:BRd w a2 d) :
  Calls Tryz.prog 97 #[partV fl ty a1 n1 c1 a2 d.length c2,.bool false,.int .i64 s] w fun e w'=>Throws w w' s d e:=by
 have hb:∀ o,Below w.heap.size w (w.alloc o):=fun o=>(Below.refl _ _).alloc (Nat.le_refl _) _
 have K:Hid (∀ o,Calls Tryz.prog 70 #[.int .i64 s,.slice a2 d.length c2] (w.alloc o) fun e w'=>Throws w w' s d e):=fun o=>(throw_any s a2 c2 d (w.alloc o) hl (h.below (hb o))).mono fun e w' h9=>h9.from (hb o)
 clear h hb
 unfold partV
 unfold Throws at K ⊢
 unfold thrown at K ⊢
 generalize d.length=n at *
 go_enter Tryz.func97,Tryz.ntmps97
 go_wp2_with fail
 refine (K.out _).mono ?_
 rintro e w1 ⟨a9,c9,rfl,ho,hb⟩
 go_wp2
 exact ⟨rfl,a9,c9,rfl,ho,hb⟩
theorem and16 (x:Nat)(h:x < 256):(bits .and .u8 (x:Int) 16 != 0)=decide (x / 16 % 2=1):=by
 have e:bits .and .u8 (x:Int) ((16:Nat):Int)=((x &&& 16:Nat):Int):=(bits_nat .u8 8 (by decide) (fun n h0 h1=>by rw [IntKind.wrap_u8]; simp only [Int.reducePow] at h1; omega) _ _ (by simpa using h) (by decide)).1
 have e2:bits .and .u8 (x:Int) 16=((x &&& 16:Nat):Int):=e
 rw [e2]
 have key:∀ y:Fin 256,((((y:Nat) &&& 16:Nat):Int) != 0)=decide ((y:Nat) / 16 % 2=1):=by decide +kernel
 exact key ⟨x,h⟩
set_option maxHeartbeats 3200000 in
theorem first3 (b o m c:Nat)(b0 b1 s:Nat)(w:World)(hmc:m≤c)(hm2:m≤20000)(h0:b0 < 256)(h1:b1 < 256)(hs:s < 256)(hx:b0 / 16 % 2=0)(hfit:3+s≤m)
  (c0:w.cell? ⟨b,o,none⟩=some (.int .u8 (b0:Int))) (c1:w.cell? ⟨b,o+1,none⟩=some (.int .u8 (b1:Int))) (c2:w.cell? ⟨b,o+2,none⟩=some (.int .u8 (s:Int))) :
  Calls Tryz.prog 69 #[.slice (some ⟨b,o,none⟩) m c] w fun e w'=>∃ a1 k1 a3 k3,e=.returned (.tuple #[partV (b0:Int) (b1:Int) a1 s k1 (some ⟨b,o,none⟩) (3+s) c,.slice a3 (m - (3+s)) k3])∧(0 < s→a1=some ⟨b,o+3,none⟩)∧s≤k1∧(3+s < m→a3=some ⟨b,o+(3+s),none⟩)∧m - (3+s)≤k3∧Below w.heap.size w w':=by
 have hlt:=World.block_lt_of_cell? w _ c0
 simp only at hlt
 have ha:(bits .and .u8 (b0:Int) 16 != 0)=false:=by rw [and16 b0 h0]; exact decide_eq_false (by omega)
 have m0:(0:Int) < (m:Int):=by omega
 have m1:(1:Int) < (m:Int):=by omega
 have m2:(2:Int) < (m:Int):=by omega
 have d3:decide ((m:Int) < 3)=false:=decide_eq_false (by omega)
 have m3:(m:Int)≤(c:Int):=by omega
 have m4:(3:Int)≤(c:Int):=by omega
 have hc2:¬ c=2:=by omega
 unfold partV
 have hor:bits .or .i64 0 (s:Int)=(s:Int):=by
  have:=(bits_nat .i64 32 (by decide) (fun n h0 h1=>by rw [IntKind.wrap_i64]; simp only [Int.reducePow] at h1; omega) 0 s (by decide) (by simp only [Nat.reducePow]; omega)).2
  simpa using this
 by_cases hc3:c=3
 ·subst hc3
  have hs0:s=0:=by omega
  subst hs0
  have hm3:m=3:=by omega
  subst hm3
  go_enter Tryz.func69,Tryz.ntmps69
  go_wp2
  go_loop [5,23] (fun z i=>∃ k:Nat,k≤1∧i=.int .i64 k∧z=.int .i64 (if k=0 then 0 else 0)) (fun _ i=>1 - (intOf i).toNat)
  case atStart=>exact ⟨0,by omega,rfl,rfl⟩
  case round =>
   obtain ⟨k,hk,rfl,rfl⟩:=hrel
   rcases (by omega:k=0∨k=1) with rfl | rfl
   ·rw [if_pos rfl]
    go_wp2
    exact ⟨⟨1,by omega,by go_num,rfl⟩,by simp [intOf]⟩
   ·rw [if_neg (by omega)]
    go_wp2_with fail
    go_region
    go_wp2
    all_goals exact bodyPost_ret (v:=.tuple #[.agg #[.int .i64 (b0:Int),.int .i64 (b1:Int),.slice (some ⟨b,o,none⟩) 0 0,.slice (some ⟨b,o,none⟩) 3 3],.slice (some ⟨b,o,none⟩) 0 0]) (by simp [results,Tryz.results69,go_sem]) rfl ⟨_,_,_,_,rfl,fun h=>absurd h (by omega),Nat.le_refl _,fun h=>absurd h (by omega),Nat.le_refl _,by repeat (first | exact (Below.refl _ _).alloc (Nat.le_refl _) _ | refine Below.setCell ?_ (Nat.le_refl _) _ | refine Below.drew ?_)⟩
 ·have d3c:decide (c=3)=false:=decide_eq_false hc3
  have HZ:Hid (∀ en,3+s=en→en - 3=s):=fun en h=>by omega
  generalize hen:3+s=en at *
  have hei:(3:Int)+(s:Int)=(en:Int):=by omega
  have wen:IntKind.i64.wrap (en:Int)=(en:Int):=by rw [IntKind.wrap_i64]; omega
  have hz:=HZ.out en rfl
  have n3:(3:Int)≤(en:Int):=by omega
  have n4:(0:Int)≤(en:Int):=by omega
  by_cases hce:en=c
  ·have hmm:m=en:=by omega
   subst hmm
   subst hce
   have dd:decide ((m:Int) < (m:Int))=false:=decide_eq_false (by omega)
   clear hen HZ
   go_enter Tryz.func69,Tryz.ntmps69
   go_wp2
   go_loop [5,23] (fun z i=>∃ k:Nat,k≤1∧i=.int .i64 k∧z=.int .i64 (if k=0 then 0 else (s:Int))) (fun _ i=>1 - (intOf i).toNat)
   case atStart=>exact ⟨0,by omega,rfl,rfl⟩
   case round =>
    obtain ⟨k,hk,rfl,rfl⟩:=hrel
    rcases (by omega:k=0∨k=1) with rfl | rfl
    ·rw [if_pos rfl]
     go_wp2
     exact ⟨⟨1,by omega,by go_num,rfl⟩,by simp [intOf]⟩
    ·rw [if_neg (by omega)]
     go_wp2_with fail
     go_region
     go_wp2
     all_goals exact bodyPost_ret (v:=.tuple #[.agg #[.int .i64 (b0:Int),.int .i64 (b1:Int),.slice (some ⟨b,o+3,none⟩) s s,.slice (some ⟨b,o,none⟩) m m],.slice (some ⟨b,o,none⟩) 0 0]) (by simp [results,Tryz.results69,go_sem]) rfl ⟨_,_,_,0,by rw [Nat.sub_self],fun _=>rfl,Nat.le_refl _,fun h=>absurd h (by omega),by omega,by repeat (first | exact (Below.refl _ _).alloc (Nat.le_refl _) _ | refine Below.setCell ?_ (Nat.le_refl _) _ | refine Below.drew ?_)⟩
  ·have dce:¬ c=en:=fun h=>hce h.symm
   have dd:decide ((m:Int) < (en:Int))=false:=decide_eq_false (by omega)
   have n1:(en:Int)≤(m:Int):=by omega
   have n2:(en:Int)≤(c:Int):=by omega
   have HK:Hid (s≤c - 3∧m - en≤c - en):=⟨by omega,by omega⟩
   clear hen HZ
   go_enter Tryz.func69,Tryz.ntmps69
   go_wp2
   go_loop [5,23] (fun z i=>∃ k:Nat,k≤1∧i=.int .i64 k∧z=.int .i64 (if k=0 then 0 else (s:Int))) (fun _ i=>1 - (intOf i).toNat)
   case atStart=>exact ⟨0,by omega,rfl,rfl⟩
   case round =>
    obtain ⟨k,hk,rfl,rfl⟩:=hrel
    rcases (by omega:k=0∨k=1) with rfl | rfl
    ·rw [if_pos rfl]
     go_wp2
     exact ⟨⟨1,by omega,by go_num,rfl⟩,by simp [intOf]⟩
    ·rw [if_neg (by omega)]
     go_wp2_with fail
     go_region
     go_wp2
     all_goals exact bodyPost_ret (v:=.tuple #[.agg #[.int .i64 (b0:Int),.int .i64 (b1:Int),.slice (some ⟨b,o+3,none⟩) s (c - 3),.slice (some ⟨b,o,none⟩) en c],.slice (some ⟨b,o+en,none⟩) (m - en) (c - en)]) (by simp [results,Tryz.results69,go_sem]) rfl ⟨_,_,_,_,rfl,fun _=>rfl,HK.out.1,fun _=>rfl,HK.out.2,by repeat (first | exact (Below.refl _ _).alloc (Nat.le_refl _) _ | refine Below.setCell ?_ (Nat.le_refl _) _ | refine Below.drew ?_)⟩
set_option maxHeartbeats 3200000 in
theorem first4 (b o m c:Nat)(b0 b1 b2 b3 s:Nat)(w:World)(hmc:m≤c)(hm2:m≤20000)(h0:b0 < 256)(h1:b1 < 256)(h2:b2 < 256)(h3:b3 < 256)(hs:256 * b2+b3=s)(hx:b0 / 16 % 2=1)(hfit:4+s≤m)
  (c0:w.cell? ⟨b,o,none⟩=some (.int .u8 (b0:Int))) (c1:w.cell? ⟨b,o+1,none⟩=some (.int .u8 (b1:Int))) (c2:w.cell? ⟨b,o+2,none⟩=some (.int .u8 (b2:Int))) (c3:w.cell? ⟨b,o+3,none⟩=some (.int .u8 (b3:Int))) :
  Calls Tryz.prog 69 #[.slice (some ⟨b,o,none⟩) m c] w fun e w'=>∃ a1 k1 a3 k3,e=.returned (.tuple #[partV (b0:Int) (b1:Int) a1 s k1 (some ⟨b,o,none⟩) (4+s) c,.slice a3 (m - (4+s)) k3])∧(0 < s→a1=some ⟨b,o+4,none⟩)∧s≤k1∧(4+s < m→a3=some ⟨b,o+(4+s),none⟩)∧m - (4+s)≤k3∧Below w.heap.size w w':=by
 have hlt:=World.block_lt_of_cell? w _ c0
 simp only at hlt
 have ha:(bits .and .u8 (b0:Int) 16 != 0)=true:=by rw [and16 b0 h0]; exact decide_eq_true hx
 have m0:(0:Int) < (m:Int):=by omega
 have m1:(1:Int) < (m:Int):=by omega
 have m2:(2:Int) < (m:Int):=by omega
 have d3:decide ((m:Int) < 4)=false:=decide_eq_false (by omega)
 have m3:(m:Int)≤(c:Int):=by omega
 have m4:(4:Int)≤(c:Int):=by omega
 have hc2:¬ c=2:=by omega
 unfold partV
 have hor:bits .or .i64 0 (b2:Int)=(b2:Int):=by
  have:=(bits_nat .i64 32 (by decide) (fun n h0 h1=>by rw [IntKind.wrap_i64]; simp only [Int.reducePow] at h1; omega) 0 b2 (by decide) (by simp only [Nat.reducePow]; omega)).2
  simpa using this
 have hor2:bits .or .i64 ((b2:Int) * 256) (b3:Int)=(s:Int):=by
  have:=(bits_nat .i64 32 (by decide) (fun n h0 h1=>by rw [IntKind.wrap_i64]; simp only [Int.reducePow] at h1; omega) (b2 * 256) b3 (by simp only [Nat.reducePow]; omega) (by simp only [Nat.reducePow]; omega)).2
  have h9:=Nat.two_pow_add_eq_or_of_lt (i:=8) (b:=b3) (by simpa using h3) b2
  simp only [Nat.reducePow] at h9
  rw [Nat.mul_comm b2 256,← h9] at this
  have e1:(b2:Int) * 256=((256 * b2:Nat):Int):=by omega
  rw [e1,this,hs]
 have hsb:s < 65536:=by omega
 clear hs
 by_cases hc3:c=4
 ·subst hc3
  have hs0:s=0:=by omega
  subst hs0
  have hm3:m=4:=by omega
  subst hm3
  go_enter Tryz.func69,Tryz.ntmps69
  go_wp2
  go_loop [5,23] (fun z i=>∃ k:Nat,k≤2∧i=.int .i64 k∧z=.int .i64 (if k=0 then 0 else if k=1 then (b2:Int) else 0)) (fun _ i=>2 - (intOf i).toNat)
  case atStart=>exact ⟨0,by omega,rfl,rfl⟩
  case round =>
   obtain ⟨k,hk,rfl,rfl⟩:=hrel
   rcases (by omega:k=0∨k=1∨k=2) with rfl | rfl | rfl
   ·rw [if_pos rfl]
    go_wp2
    exact ⟨⟨1,by omega,by go_num,rfl⟩,by simp [intOf]⟩
   ·rw [if_neg (by omega),if_pos rfl]
    go_wp2
    exact ⟨⟨2,by omega,by go_num,rfl⟩,by simp [intOf]⟩
   ·rw [if_neg (by omega),if_neg (by omega)]
    go_wp2_with fail
    go_region
    go_wp2
    all_goals exact bodyPost_ret (v:=.tuple #[.agg #[.int .i64 (b0:Int),.int .i64 (b1:Int),.slice (some ⟨b,o,none⟩) 0 0,.slice (some ⟨b,o,none⟩) 4 4],.slice (some ⟨b,o,none⟩) 0 0]) (by simp [results,Tryz.results69,go_sem]) rfl ⟨_,_,_,_,rfl,fun h=>absurd h (by omega),Nat.le_refl _,fun h=>absurd h (by omega),Nat.le_refl _,by repeat (first | exact (Below.refl _ _).alloc (Nat.le_refl _) _ | refine Below.setCell ?_ (Nat.le_refl _) _ | refine Below.drew ?_)⟩
 ·have d3c:decide (c=4)=false:=decide_eq_false hc3
  have HZ:Hid (∀ en,4+s=en→en - 4=s):=fun en h=>by omega
  generalize hen:4+s=en at *
  have hei:(4:Int)+(s:Int)=(en:Int):=by omega
  have wen:IntKind.i64.wrap (en:Int)=(en:Int):=by rw [IntKind.wrap_i64]; omega
  have hz:=HZ.out en rfl
  have n3:(4:Int)≤(en:Int):=by omega
  have n4:(0:Int)≤(en:Int):=by omega
  by_cases hce:en=c
  ·have hmm:m=en:=by omega
   subst hmm
   subst hce
   have dd:decide ((m:Int) < (m:Int))=false:=decide_eq_false (by omega)
   clear hen HZ
   go_enter Tryz.func69,Tryz.ntmps69
   go_wp2
   go_loop [5,23] (fun z i=>∃ k:Nat,k≤2∧i=.int .i64 k∧z=.int .i64 (if k=0 then 0 else if k=1 then (b2:Int) else (s:Int))) (fun _ i=>2 - (intOf i).toNat)
   case atStart=>exact ⟨0,by omega,rfl,rfl⟩
   case round =>
    obtain ⟨k,hk,rfl,rfl⟩:=hrel
    rcases (by omega:k=0∨k=1∨k=2) with rfl | rfl | rfl
    ·rw [if_pos rfl]
     go_wp2
     exact ⟨⟨1,by omega,by go_num,rfl⟩,by simp [intOf]⟩
    ·rw [if_neg (by omega),if_pos rfl]
     go_wp2
     exact ⟨⟨2,by omega,by go_num,rfl⟩,by simp [intOf]⟩
    ·rw [if_neg (by omega),if_neg (by omega)]
     go_wp2_with fail
     go_region
     go_wp2
     all_goals exact bodyPost_ret (v:=.tuple #[.agg #[.int .i64 (b0:Int),.int .i64 (b1:Int),.slice (some ⟨b,o+4,none⟩) s s,.slice (some ⟨b,o,none⟩) m m],.slice (some ⟨b,o,none⟩) 0 0]) (by simp [results,Tryz.results69,go_sem]) rfl ⟨_,_,_,0,by rw [Nat.sub_self],fun _=>rfl,Nat.le_refl _,fun h=>absurd h (by omega),by omega,by repeat (first | exact (Below.refl _ _).alloc (Nat.le_refl _) _ | refine Below.setCell ?_ (Nat.le_refl _) _ | refine Below.drew ?_)⟩
  ·have dce:¬ c=en:=fun h=>hce h.symm
   have dd:decide ((m:Int) < (en:Int))=false:=decide_eq_false (by omega)
   have n1:(en:Int)≤(m:Int):=by omega
   have n2:(en:Int)≤(c:Int):=by omega
   have HK:Hid (s≤c - 4∧m - en≤c - en):=⟨by omega,by omega⟩
   clear hen HZ
   go_enter Tryz.func69,Tryz.ntmps69
   go_wp2
   go_loop [5,23] (fun z i=>∃ k:Nat,k≤2∧i=.int .i64 k∧z=.int .i64 (if k=0 then 0 else if k=1 then (b2:Int) else (s:Int))) (fun _ i=>2 - (intOf i).toNat)
   case atStart=>exact ⟨0,by omega,rfl,rfl⟩
   case round =>
    obtain ⟨k,hk,rfl,rfl⟩:=hrel
    rcases (by omega:k=0∨k=1∨k=2) with rfl | rfl | rfl
    ·rw [if_pos rfl]
     go_wp2
     exact ⟨⟨1,by omega,by go_num,rfl⟩,by simp [intOf]⟩
    ·rw [if_neg (by omega),if_pos rfl]
     go_wp2
     exact ⟨⟨2,by omega,by go_num,rfl⟩,by simp [intOf]⟩
    ·rw [if_neg (by omega),if_neg (by omega)]
     go_wp2_with fail
     go_region
     go_wp2
     all_goals exact bodyPost_ret (v:=.tuple #[.agg #[.int .i64 (b0:Int),.int .i64 (b1:Int),.slice (some ⟨b,o+4,none⟩) s (c - 4),.slice (some ⟨b,o,none⟩) en c],.slice (some ⟨b,o+en,none⟩) (m - en) (c - en)]) (by simp [results,Tryz.results69,go_sem]) rfl ⟨_,_,_,_,rfl,fun _=>rfl,HK.out.1,fun _=>rfl,HK.out.2,by repeat (first | exact (Below.refl _ _).alloc (Nat.le_refl _) _ | refine Below.setCell ?_ (Nat.le_refl _) _ | refine Below.drew ?_)⟩
theorem brd_nil (w:World)(a:Option Addr):BRd w a []:=⟨Rw.nil _ _ _,fun x h=>by simp at h⟩
theorem throw_nil (s:Int)(w0 w:World)(hb:Below w0.heap.size w0 w):Calls Tryz.prog 70 #[.int .i64 s,.slice none 0 0] w fun e w'=>Throws w0 w' s [] e :=
 (throw_any s none 0 [] w (by simp) (brd_nil w none)).mono fun e w' h=>h.from hb
set_option maxHeartbeats 1600000 in
theorem first_short (b o m c b0:Nat)(w:World)(h0:b0 < 256)(hm:0 < m)(hs:m < headL b0)(c0:w.cell? ⟨b,o,none⟩=some (.int .u8 (b0:Int))) :
  Calls Tryz.prog 69 #[.slice (some ⟨b,o,none⟩) m c] w fun e w'=>Throws w w' 1 [] e:=by
 have hlt:=World.block_lt_of_cell? w _ c0
 simp only at hlt
 have K:Hid (∀ w1,Below w.heap.size w w1→Calls Tryz.prog 70 #[.int .i64 1,.slice none 0 0] w1 fun e w'=>Throws w w' 1 [] e):=fun w1 hb=>throw_nil 1 w w1 hb
 have m0:(0:Int) < (m:Int):=by omega
 unfold headL at hs
 unfold Throws at K ⊢
 unfold thrown at K ⊢
 by_cases hx:b0 / 16 % 2=1
 ·rw [if_pos hx] at hs
  have ha:(bits .and .u8 (b0:Int) 16 != 0)=true:=by rw [and16 b0 h0]; exact decide_eq_true hx
  have d3:(m:Int) < 4:=by omega
  go_enter Tryz.func69,Tryz.ntmps69
  go_wp2_with fail
  refine (K.out _ ((Below.refl _ _).alloc (Nat.le_refl _) _)).mono ?_
  rintro e w1 ⟨a9,c9,rfl,ho,hb⟩
  go_wp2
  exact ⟨rfl,a9,c9,rfl,ho,hb⟩
 ·rw [if_neg hx] at hs
  have ha:(bits .and .u8 (b0:Int) 16 != 0)=false:=by rw [and16 b0 h0]; exact decide_eq_false hx
  have d3:(m:Int) < 3:=by omega
  go_enter Tryz.func69,Tryz.ntmps69
  go_wp2_with fail
  refine (K.out _ ((Below.refl _ _).alloc (Nat.le_refl _) _)).mono ?_
  rintro e w1 ⟨a9,c9,rfl,ho,hb⟩
  go_wp2
  exact ⟨rfl,a9,c9,rfl,ho,hb⟩
set_option maxHeartbeats 1600000 in
theorem first3_no (b o m c b0 s:Nat)(w:World)(hmc:m≤c)(hm2:m≤20000)(h0:b0 < 256)(hs:s < 256)(hx:b0 / 16 % 2=0)(h3m:3≤m)(hfit:m < 3+s)
  (c0:w.cell? ⟨b,o,none⟩=some (.int .u8 (b0:Int))) (c2:w.cell? ⟨b,o+2,none⟩=some (.int .u8 (s:Int))) :
  Calls Tryz.prog 69 #[.slice (some ⟨b,o,none⟩) m c] w fun e w'=>Throws w w' 1 [] e:=by
 have hlt:=World.block_lt_of_cell? w _ c0
 simp only at hlt
 have K:Hid (∀ w1,Below w.heap.size w w1→Calls Tryz.prog 70 #[.int .i64 1,.slice none 0 0] w1 fun e w'=>Throws w w' 1 [] e):=fun w1 hb=>throw_nil 1 w w1 hb
 have ha:(bits .and .u8 (b0:Int) 16 != 0)=false:=by rw [and16 b0 h0]; exact decide_eq_false (by omega)
 have m0:(0:Int) < (m:Int):=by omega
 have d3:decide ((m:Int) < 3)=false:=decide_eq_false (by omega)
 have m3:(m:Int)≤(c:Int):=by omega
 have m4:(3:Int)≤(c:Int):=by omega
 have hc2:¬ c=2:=by omega
 have hor:bits .or .i64 0 (s:Int)=(s:Int):=by
  have:=(bits_nat .i64 32 (by decide) (fun n h0 h1=>by rw [IntKind.wrap_i64]; simp only [Int.reducePow] at h1; omega) 0 s (by decide) (by simp only [Nat.reducePow]; omega)).2
  simpa using this
 generalize hen:3+s=en at *
 have hei:(3:Int)+(s:Int)=(en:Int):=by omega
 have wen:IntKind.i64.wrap (en:Int)=(en:Int):=by rw [IntKind.wrap_i64]; omega
 have dd:(m:Int) < (en:Int):=by omega
 clear hen
 unfold Throws at K ⊢
 unfold thrown at K ⊢
 go_enter Tryz.func69,Tryz.ntmps69
 go_wp2
 go_loop [5,23] (fun z i=>∃ k:Nat,k≤1∧i=.int .i64 k∧z=.int .i64 (if k=0 then 0 else (s:Int))) (fun _ i=>1 - (intOf i).toNat)
 case atStart=>exact ⟨0,by omega,rfl,rfl⟩
 case round =>
  obtain ⟨k,hk,rfl,rfl⟩:=hrel
  rcases (by omega:k=0∨k=1) with rfl | rfl
  ·rw [if_pos rfl]
   go_wp2
   exact ⟨⟨1,by omega,by go_num,rfl⟩,by simp [intOf]⟩
  ·rw [if_neg (by omega)]
   go_wp2_with fail
   refine (K.out _ ((Below.refl _ _).alloc (Nat.le_refl _) _)).mono ?_
   rintro e w1 ⟨a9,c9,rfl,ho,hb⟩
   go_wp2
   exact ⟨rfl,a9,c9,rfl,ho,hb⟩
set_option maxHeartbeats 1600000 in
theorem first4_no (b o m c b0 b2 b3 s:Nat)(w:World)(hmc:m≤c)(hm2:m≤20000)(h0:b0 < 256)(h2:b2 < 256)(h3:b3 < 256)(hs:256 * b2+b3=s)(hx:b0 / 16 % 2=1)(h3m:4≤m)(hfit:m < 4+s)
  (c0:w.cell? ⟨b,o,none⟩=some (.int .u8 (b0:Int))) (c2:w.cell? ⟨b,o+2,none⟩=some (.int .u8 (b2:Int))) (c3:w.cell? ⟨b,o+3,none⟩=some (.int .u8 (b3:Int))) :
  Calls Tryz.prog 69 #[.slice (some ⟨b,o,none⟩) m c] w fun e w'=>Throws w w' 1 [] e:=by
 have hlt:=World.block_lt_of_cell? w _ c0
 simp only at hlt
 have K:Hid (∀ w1,Below w.heap.size w w1→Calls Tryz.prog 70 #[.int .i64 1,.slice none 0 0] w1 fun e w'=>Throws w w' 1 [] e):=fun w1 hb=>throw_nil 1 w w1 hb
 have ha:(bits .and .u8 (b0:Int) 16 != 0)=true:=by rw [and16 b0 h0]; exact decide_eq_true hx
 have m0:(0:Int) < (m:Int):=by omega
 have d3:decide ((m:Int) < 4)=false:=decide_eq_false (by omega)
 have m3:(m:Int)≤(c:Int):=by omega
 have m4:(4:Int)≤(c:Int):=by omega
 have hc2:¬ c=2:=by omega
 have hor:bits .or .i64 0 (b2:Int)=(b2:Int):=by
  have:=(bits_nat .i64 32 (by decide) (fun n h0 h1=>by rw [IntKind.wrap_i64]; simp only [Int.reducePow] at h1; omega) 0 b2 (by decide) (by simp only [Nat.reducePow]; omega)).2
  simpa using this
 have hor2:bits .or .i64 ((b2:Int) * 256) (b3:Int)=(s:Int):=by
  have:=(bits_nat .i64 32 (by decide) (fun n h0 h1=>by rw [IntKind.wrap_i64]; simp only [Int.reducePow] at h1; omega) (b2 * 256) b3 (by simp only [Nat.reducePow]; omega) (by simp only [Nat.reducePow]; omega)).2
  have h9:=Nat.two_pow_add_eq_or_of_lt (i:=8) (b:=b3) (by simpa using h3) b2
  simp only [Nat.reducePow] at h9
  rw [Nat.mul_comm b2 256,← h9] at this
  have e1:(b2:Int) * 256=((256 * b2:Nat):Int):=by omega
  rw [e1,this,hs]
 have hsb:s < 65536:=by omega
 clear hs
 generalize hen:4+s=en at *
 have hei:(4:Int)+(s:Int)=(en:Int):=by omega
 have wen:IntKind.i64.wrap (en:Int)=(en:Int):=by rw [IntKind.wrap_i64]; omega
 have dd:(m:Int) < (en:Int):=by omega
 clear hen
 unfold Throws at K ⊢
 unfold thrown at K ⊢
 go_enter Tryz.func69,Tryz.ntmps69
 go_wp2
 go_loop [5,23] (fun z i=>∃ k:Nat,k≤2∧i=.int .i64 k∧z=.int .i64 (if k=0 then 0 else if k=1 then (b2:Int) else (s:Int))) (fun _ i=>2 - (intOf i).toNat)
 case atStart=>exact ⟨0,by omega,rfl,rfl⟩
 case round =>
  obtain ⟨k,hk,rfl,rfl⟩:=hrel
  rcases (by omega:k=0∨k=1∨k=2) with rfl | rfl | rfl
  ·rw [if_pos rfl]
   go_wp2
   exact ⟨⟨1,by omega,by go_num,rfl⟩,by simp [intOf]⟩
  ·rw [if_neg (by omega),if_pos rfl]
   go_wp2
   exact ⟨⟨2,by omega,by go_num,rfl⟩,by simp [intOf]⟩
  ·rw [if_neg (by omega),if_neg (by omega)]
   go_wp2_with fail
   refine (K.out _ ((Below.refl _ _).alloc (Nat.le_refl _) _)).mono ?_
   rintro e w1 ⟨a9,c9,rfl,ho,hb⟩
   go_wp2
   exact ⟨rfl,a9,c9,rfl,ho,hb⟩
theorem BRd.cells {w:World}{a:Option Addr}{bs:List Nat} (h:BRd w a bs) (hp:0 < bs.length):∃ b o,a=some ⟨b,o,none⟩∧(∀ j,j < bs.length→w.cell? ⟨b,o+j,none⟩=some (.int .u8 (bs.getD j 0:Int)))∧∀ j,bs.getD j 0 < 256:=by
 obtain ⟨b,o,e,hc⟩:=h.1.2 hp
 refine ⟨b,o,e,hc,fun j=>?_⟩
 by_cases hj:j < bs.length
 ·rw [List.getD_eq_getElem?_getD,List.getElem?_eq_getElem hj]
  exact h.2 _ (List.getElem_mem hj)
 ·rw [List.getD_eq_getElem?_getD,List.getElem?_eq_none (by omega)]
  decide
theorem BRd.piece {w:World}{b o:Nat}{bs:List Nat} (h:BRd w (some ⟨b,o,none⟩) bs) (i n:Nat) (hi:i+n≤bs.length) (a:Option Addr) (ha:0 < n→a=some ⟨b,o+i,none⟩):BRd w a ((bs.drop i).take n):=by
 have hl:((bs.drop i).take n).length=n:=by rw [List.length_take,List.length_drop]; omega
 refine ⟨⟨by rw [hl]; have:=h.1.1; omega,fun hp=>?_⟩,fun x hx=>h.2 x (List.mem_of_mem_drop (List.mem_of_mem_take hx))⟩
 rw [hl] at hp
 refine ⟨b,o+i,ha hp,fun j hj=>?_⟩
 rw [hl] at hj
 obtain ⟨b',o',e,hc⟩:=h.1.2 (by omega)
 simp only [Option.some.injEq,Addr.mk.injEq,and_true] at e
 obtain ⟨rfl,rfl⟩:=e
 rw [Nat.add_assoc,hc (i+j) (by omega)]
 congr 3
 show bs.getD (i+j) 0=((bs.drop i).take n).getD j 0
 rw [List.getD_eq_getElem?_getD,List.getD_eq_getElem?_getD,List.getElem?_take,if_pos hj,List.getElem?_drop]
theorem BRd.behind {w:World}{b o:Nat}{bs:List Nat} (h:BRd w (some ⟨b,o,none⟩) bs) (i:Nat) (hi:i≤bs.length) (a:Option Addr) (ha:i < bs.length→a=some ⟨b,o+i,none⟩):BRd w a (bs.drop i):=by
 have h9:=h.piece i (bs.length - i) (by omega) a (fun hp=>ha (by omega))
 rwa [List.take_of_length_le (by rw [List.length_drop]; omega)] at h9
theorem BRd.ahead {w:World}{b o:Nat}{bs:List Nat} (h:BRd w (some ⟨b,o,none⟩) bs) (n:Nat) (hn:n≤bs.length):BRd w (some ⟨b,o,none⟩) (bs.take n):=by
 have h9:=h.piece 0 n (by omega) (some ⟨b,o,none⟩) (fun _=>by rw [Nat.add_zero])
 rwa [List.drop_zero] at h9
def FirstRes (w w':World)(bs:List Nat)(e:Ending):Prop :=
 ∃ a1 k1 a2 k2 a3 k3,e=.returned (.tuple #[partV (bs.getD 0 0:Int) (bs.getD 1 0:Int) a1 (sizeL bs) k1 a2 (headL (bs.getD 0 0)+sizeL bs) k2,.slice a3 (bs.length - (headL (bs.getD 0 0)+sizeL bs)) k3])∧BRd w a1 ((bs.drop (headL (bs.getD 0 0))).take (sizeL bs))∧sizeL bs≤k1∧BRd w a2 (bs.take (headL (bs.getD 0 0)+sizeL bs))∧BRd w a3 (bs.drop (headL (bs.getD 0 0)+sizeL bs))∧bs.length - (headL (bs.getD 0 0)+sizeL bs)≤k3∧Below w.heap.size w w'
theorem afirst_yes (a:Option Addr)(c:Nat)(bs:List Nat)(w:World)(hp:0 < bs.length)(hl:bs.length≤20000)(hc:bs.length≤c)(h:BRd w a bs)(hfit:headL (bs.getD 0 0)+sizeL bs≤bs.length) :
  Calls Tryz.prog 69 #[.slice a bs.length c] w fun e w'=>FirstRes w w' bs e:=by
 obtain ⟨b,o,rfl,hcell,hlt⟩:=h.cells hp
 have hh:=headL_pos (bs.getD 0 0)
 by_cases hx:bs.getD 0 0 / 16 % 2=1
 ·have e1:headL (bs.getD 0 0)=4:=by unfold headL; rw [if_pos hx]
  have e2:sizeL bs=256 * bs.getD 2 0+bs.getD 3 0:=by unfold sizeL; rw [if_pos hx]
  rw [e1] at hfit
  refine (first4 b o bs.length c _ _ _ _ (sizeL bs) w hc hl (hlt 0) (hlt 1) (hlt 2) (hlt 3) e2.symm hx hfit (by have:=hcell 0 hp; simpa using this) (hcell 1 (by omega)) (hcell 2 (by omega)) (hcell 3 (by omega))).mono ?_
  rintro e w' ⟨a1,k1,a3,k3,he,q1,q2,q3,q4,hb⟩
  refine ⟨a1,k1,_,c,a3,k3,by rw [e1]; exact he,?_,q2,?_,?_,by rw [e1]; exact q4,hb⟩
  ·rw [e1]; exact h.piece 4 _ hfit a1 q1
  ·rw [e1]; exact h.ahead _ hfit
  ·rw [e1]; exact h.behind _ hfit a3 q3
 ·have e1:headL (bs.getD 0 0)=3:=by unfold headL; rw [if_neg hx]
  have e2:sizeL bs=bs.getD 2 0:=by unfold sizeL; rw [if_neg hx]
  rw [e1] at hfit
  refine (first3 b o bs.length c _ _ (sizeL bs) w hc hl (hlt 0) (hlt 1) (by rw [e2]; exact hlt 2) (by omega) hfit (by have:=hcell 0 hp; simpa using this) (hcell 1 (by omega)) (by rw [e2]; exact hcell 2 (by omega))).mono ?_
  rintro e w' ⟨a1,k1,a3,k3,he,q1,q2,q3,q4,hb⟩
  refine ⟨a1,k1,_,c,a3,k3,by rw [e1]; exact he,?_,q2,?_,?_,by rw [e1]; exact q4,hb⟩
  ·rw [e1]; exact h.piece 3 _ hfit a1 q1
  ·rw [e1]; exact h.ahead _ hfit
  ·rw [e1]; exact h.behind _ hfit a3 q3
theorem afirst_no (a:Option Addr)(c:Nat)(bs:List Nat)(w:World)(hp:0 < bs.length)(hl:bs.length≤20000)(hc:bs.length≤c)(h:BRd w a bs)(hfit:¬ (headL (bs.getD 0 0)≤bs.length∧headL (bs.getD 0 0)+sizeL bs≤bs.length)) :
  Calls Tryz.prog 69 #[.slice a bs.length c] w fun e w'=>Throws w w' 1 [] e:=by
 obtain ⟨b,o,rfl,hcell,hlt⟩:=h.cells hp
 by_cases hs:bs.length < headL (bs.getD 0 0)
 ·exact first_short b o bs.length c _ w (hlt 0) hp hs (by have:=hcell 0 hp; simpa using this)
 ·by_cases hx:bs.getD 0 0 / 16 % 2=1
  ·have e1:headL (bs.getD 0 0)=4:=by unfold headL; rw [if_pos hx]
   have e2:sizeL bs=256 * bs.getD 2 0+bs.getD 3 0:=by unfold sizeL; rw [if_pos hx]
   rw [e1] at hfit hs
   exact first4_no b o bs.length c _ _ _ (sizeL bs) w hc hl (hlt 0) (hlt 2) (hlt 3) e2.symm hx (by omega) (by omega) (by have:=hcell 0 hp; simpa using this) (hcell 2 (by omega)) (hcell 3 (by omega))
  ·have e1:headL (bs.getD 0 0)=3:=by unfold headL; rw [if_neg hx]
   have e2:sizeL bs=bs.getD 2 0:=by unfold sizeL; rw [if_neg hx]
   rw [e1] at hfit hs
   exact first3_no b o bs.length c _ (sizeL bs) w hc hl (hlt 0) (by rw [e2]; exact hlt 2) (by omega) (by omega) (by omega) (by have:=hcell 0 hp; simpa using this) (by rw [e2]; exact hcell 2 (by omega))
set_option maxHeartbeats 800000 in
theorem catch_idle (p q:Addr)(w:World) :
  CallsD Tryz.prog 68 #[.pointer (some p),.pointer (some q)] .returning w fun e u' w'=>e=.returned (.tuple #[])∧u'=.returning∧w'=w:=by
 refine callsD_of_wpS Tryz.func68 rfl fun c₀ cs hu=>?_
 apply wpS_seq
 apply wpS_region
 simp [wpOpsS,go_sem,recoverD,hu,Tryz.ntmps68,Exit.thenS]
 refine wpS_of_wp ?_
 change Code.wp Tryz.prog _ _ { tmps:=#[.pointer (some p),.pointer (some q),.nilIface,.nilIface,undef,undef,undef,undef,undef],defers:=[] } w
 go_wp2
 cases c₀
 simp_all [bodyPostS,results,Tryz.results68]
theorem assert_wrong (W:World)(v:Value):(Instr.typeAssert (.iface 122 v) 20 122 false).run Tryz.prog W=.ok v W:=by kernel_rfl
set_option maxHeartbeats 1600000 in
theorem catch_throw (X N:Nat)(s:Int)(a:Option Addr)(n c:Nat)(w:World)(hXN:X≠N)
  (hx:∀ j,j < 7→∃ v,w.cell? ⟨X,j,none⟩=some v) (fx:∀ j,w.frozen? ⟨X,j,none⟩=false) (hn:∀ j,j < 3→∃ v,w.cell? ⟨N,j,none⟩=some v) (fn:∀ j,w.frozen? ⟨N,j,none⟩=false) :
  CallsD Tryz.prog 68 #[.pointer (some ⟨X,0,none⟩),.pointer (some ⟨N,0,none⟩)] (.panicking [{ v:=.iface 122 (.agg #[.int .i64 3,.int .i64 s,.slice a n c]),recovered:=false }]) w fun e u' w' =>
   e=.returned (.tuple #[])∧u'=.panicking [{ v:=.iface 122 (.agg #[.int .i64 3,.int .i64 s,.slice a n c]),recovered:=true }]∧Keeps (fun b=>b=X∨b=N) w w' ∧
    (∀ j v,[Value.int .i64 0,.slice none 0 0,.int .u32 0,.int .i64 0,.int .i64 0,.slice none 0 0,.slice none 0 0][j]?=some v→w'.cell? ⟨X,j,none⟩=some v)∧(∀ j v,[Value.int .i64 3,.int .i64 s,.slice a n c][j]?=some v→w'.cell? ⟨N,j,none⟩=some v):=by
 obtain ⟨x0,hx0⟩:=hx 0 (by omega)
 obtain ⟨x1,hx1⟩:=hx 1 (by omega)
 obtain ⟨x2,hx2⟩:=hx 2 (by omega)
 obtain ⟨x3,hx3⟩:=hx 3 (by omega)
 obtain ⟨x4,hx4⟩:=hx 4 (by omega)
 obtain ⟨x5,hx5⟩:=hx 5 (by omega)
 obtain ⟨x6,hx6⟩:=hx 6 (by omega)
 obtain ⟨n0,hn0⟩:=hn 0 (by omega)
 obtain ⟨n1,hn1⟩:=hn 1 (by omega)
 obtain ⟨n2,hn2⟩:=hn 2 (by omega)
 have fx0:=fx 0
 have fx1:=fx 1
 have fx2:=fx 2
 have fx3:=fx 3
 have fx4:=fx 4
 have fx5:=fx 5
 have fx6:=fx 6
 have fn0:=fn 0
 have fn1:=fn 1
 have fn2:=fn 2
 have hNX:N≠X:=fun h=>hXN h.symm
 have hta:=assert_wrong
 clear hx hn fx fn
 refine callsD_of_wpS Tryz.func68 rfl fun c₀ cs hu=>?_
 apply wpS_seq
 apply wpS_region
 simp [wpOpsS,go_sem,recoverD,hu,Tryz.ntmps68,Exit.thenS]
 refine wpS_of_wp ?_
 change Code.wp Tryz.prog _ _ { tmps:=#[.pointer (some ⟨X,0,none⟩),.pointer (some ⟨N,0,none⟩),.iface 122 (.agg #[.int .i64 3,.int .i64 s,.slice a n c]),.iface 122 (.agg #[.int .i64 3,.int .i64 s,.slice a n c]),undef,undef,undef,undef,undef],defers:=[] } w
 go_wp2_with fail
 go_region
 have hk:Keeps (fun b=>b=X∨b=N) w ((((((((((w.setCell ⟨X,0,none⟩ (.int .i64 0)).setCell ⟨X,1,none⟩ (.slice none 0 0)).setCell ⟨X,2,none⟩ (.int .u32 0)).setCell ⟨X,3,none⟩ (.int .i64 0)).setCell ⟨X,4,none⟩ (.int .i64 0)).setCell ⟨X,5,none⟩ (.slice none 0 0)).setCell ⟨X,6,none⟩ (.slice none 0 0)).setCell ⟨N,0,none⟩ (.int .i64 3)).setCell ⟨N,1,none⟩ (.int .i64 s)).setCell ⟨N,2,none⟩ (.slice a n c)).drew :=
  (((((((((((Keeps.refl _ w).setCell X 0 _ (.inl (.inl rfl))).setCell X 1 _ (.inl (.inl rfl))).setCell X 2 _ (.inl (.inl rfl))).setCell X 3 _ (.inl (.inl rfl))).setCell X 4 _ (.inl (.inl rfl))).setCell X 5 _ (.inl (.inl rfl))).setCell X 6 _ (.inl (.inl rfl))).setCell N 0 _ (.inl (.inr rfl))).setCell N 1 _ (.inl (.inr rfl))).setCell N 2 _ (.inl (.inr rfl))).drew
 have hcx:∀ j v,[Value.int .i64 0,.slice none 0 0,.int .u32 0,.int .i64 0,.int .i64 0,.slice none 0 0,.slice none 0 0][j]?=some v→((((((((((w.setCell ⟨X,0,none⟩ (.int .i64 0)).setCell ⟨X,1,none⟩ (.slice none 0 0)).setCell ⟨X,2,none⟩ (.int .u32 0)).setCell ⟨X,3,none⟩ (.int .i64 0)).setCell ⟨X,4,none⟩ (.int .i64 0)).setCell ⟨X,5,none⟩ (.slice none 0 0)).setCell ⟨X,6,none⟩ (.slice none 0 0)).setCell ⟨N,0,none⟩ (.int .i64 3)).setCell ⟨N,1,none⟩ (.int .i64 s)).setCell ⟨N,2,none⟩ (.slice a n c)).drew.cell? ⟨X,j,none⟩=some v:=by
  intro j v h
  have hj:j < 7:=by have:=(List.getElem?_eq_some_iff.1 h).1; simpa using this
  rcases (by omega:j=0∨j=1∨j=2∨j=3∨j=4∨j=5∨j=6) with rfl | rfl | rfl | rfl | rfl | rfl | rfl <;> (simp at h; subst h; simp [go_sem,hx0,hx1,hx2,hx3,hx4,hx5,hx6])
 have hcn:∀ j v,[Value.int .i64 3,.int .i64 s,.slice a n c][j]?=some v→((((((((((w.setCell ⟨X,0,none⟩ (.int .i64 0)).setCell ⟨X,1,none⟩ (.slice none 0 0)).setCell ⟨X,2,none⟩ (.int .u32 0)).setCell ⟨X,3,none⟩ (.int .i64 0)).setCell ⟨X,4,none⟩ (.int .i64 0)).setCell ⟨X,5,none⟩ (.slice none 0 0)).setCell ⟨X,6,none⟩ (.slice none 0 0)).setCell ⟨N,0,none⟩ (.int .i64 3)).setCell ⟨N,1,none⟩ (.int .i64 s)).setCell ⟨N,2,none⟩ (.slice a n c)).drew.cell? ⟨N,j,none⟩=some v:=by
  intro j v h
  have hj:j < 3:=by have:=(List.getElem?_eq_some_iff.1 h).1; simpa using this
  rcases (by omega:j=0∨j=1∨j=2) with rfl | rfl | rfl <;> (simp at h; subst h; simp [go_sem,hn0,hn1,hn2])
 generalize ((((((((((w.setCell ⟨X,0,none⟩ (.int .i64 0)).setCell ⟨X,1,none⟩ (.slice none 0 0)).setCell ⟨X,2,none⟩ (.int .u32 0)).setCell ⟨X,3,none⟩ (.int .i64 0)).setCell ⟨X,4,none⟩ (.int .i64 0)).setCell ⟨X,5,none⟩ (.slice none 0 0)).setCell ⟨X,6,none⟩ (.slice none 0 0)).setCell ⟨N,0,none⟩ (.int .i64 3)).setCell ⟨N,1,none⟩ (.int .i64 s)).setCell ⟨N,2,none⟩ (.slice a n c)).drew=W at *
 exact ⟨rfl,_,rfl,_,results_none rfl _ _ _,rfl,rfl,hk,hcx,hcn⟩
end Go.Proofs.YtogbjeaceboemaaGreatDoor
