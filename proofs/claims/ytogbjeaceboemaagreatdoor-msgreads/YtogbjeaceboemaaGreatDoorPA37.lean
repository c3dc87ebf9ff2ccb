import Derived.Test.YtogbjeaceboemaaGreatDoorPA32
import Derived.Test.YtogbjeaceboemaaGreatDoorPA33
import Derived.Test.YtogbjeaceboemaaGreatDoorPA34
import Derived.Test.YtogbjeaceboemaaGreatDoorPA31
import Derived.Test.YtogbjeaceboemaaGreatDoorPA35
import Derived.Test.YtogbjeaceboemaaGreatDoorPA36
import Derived.Test.YtogbjeaceboemaaGreatDoorPA25
namespace Go.Proofs.YtogbjeaceboemaaGreatDoor
set_option linter.unnecessarySimpa false
open Go.RowKit
set_option maxRecDepth 100000
set_option linter.unusedVariables false
theorem known_1 (fl:Nat)(X B:Nat)(a:At)(da:Option Addr)(dc:Nat)(la:Option Addr)(lc:Nat)(d all:List Nat)(w:World)(hf:fl < 256)(hX:Box w X B a)(hB:B≤w.heap.size)(hdc:d.length≤dc)(hrd:BRd w da d)(hln:all.length≤60000)(hr:BRd w la all)(hdX:∀ x,da=some x→0 < d.length→x.block < X)(hlX:∀ x,la=some x→0 < all.length→x.block < X)(hrl:a.raws.length≤5000)(hcl:a.comms.length≤5000)(hdl:d.length≤10000) :
  Calls Tryz.prog 50 #[.pointer (some ⟨X,0,none⟩),.int .i64 (fl:Int),.int .i64 1,.slice da d.length dc,.slice la all.length lc] w fun e w'=>KnRes X B w w' (knownA a fl 1 d all) e:=by
 have hw:wantF 1=64:=rfl
 unfold knownA
 rw [hw]
 by_cases ha:fl / 64 * 64≠64
 ·rw [if_pos (.inl ha)]
  exact (kn_fa1 fl X da _ dc la _ lc all w hf rfl hln hr (bne_iff_ne.2 (by omega))).mono fun e w' ⟨a9,c9,he,ho,hb⟩=>⟨a9,c9,he,ho,keeps_box hb⟩
 have g1:((fl:Int) / 64 * 64 != 64)=false:=by rw [bne_eq_false_iff_eq]; omega
 by_cases hb:fl / 32 % 2=1
 ·rw [if_pos (.inr ⟨hb,by decide⟩)]
  exact (kn_fb1 fl X da _ dc la _ lc all w hf rfl hln hr g1 (beq_iff_eq.2 (by omega))).mono fun e w' ⟨a9,c9,he,ho,hb⟩=>⟨a9,c9,he,ho,keeps_box hb⟩
 rw [if_neg (by omega)]
 have g2:((fl:Int) / 32 % 2 == 1)=false:=beq_false_of_ne (by omega)
 by_cases hs0:d.length≠1
 ·rw [if_pos (show sizeBad 1 d=true from decide_eq_true (by omega))]
  exact (kn_s1 fl X da _ dc la _ lc all w hf rfl hln hr g1 g2 (bne_iff_ne.2 (by omega))).mono fun e w' ⟨a9,c9,he,ho,hb⟩=>⟨a9,c9,he,ho,keeps_box hb⟩
 have hs:d.length=1:=by omega
 rw [if_neg (show ¬ sizeBad 1 d=true from by rw [show sizeBad 1 d=false from decide_eq_false (by omega)]; decide)]
 rw [if_pos rfl]
 by_cases hx:2 < d.getD 0 0
 ·rw [if_pos hx]
  exact kn_no1 fl X B a da _ dc la _ lc d all w hf hX hB rfl hdc hrd rfl hln hr g1 g2 hs (by omega)
 ·rw [if_neg hx]
  exact kn_ok1 fl X B a da _ dc la _ lc d all w hf hX hB rfl hdc hrd g1 g2 hs (decide_eq_false (by omega))
theorem known_2 (fl:Nat)(X B:Nat)(a:At)(da:Option Addr)(dc:Nat)(la:Option Addr)(lc:Nat)(d all:List Nat)(w:World)(hf:fl < 256)(hX:Box w X B a)(hB:B≤w.heap.size)(hdc:d.length≤dc)(hrd:BRd w da d)(hln:all.length≤60000)(hr:BRd w la all)(hdX:∀ x,da=some x→0 < d.length→x.block < X)(hlX:∀ x,la=some x→0 < all.length→x.block < X)(hrl:a.raws.length≤5000)(hcl:a.comms.length≤5000)(hdl:d.length≤10000) :
  Calls Tryz.prog 50 #[.pointer (some ⟨X,0,none⟩),.int .i64 (fl:Int),.int .i64 2,.slice da d.length dc,.slice la all.length lc] w fun e w'=>KnRes X B w w' (knownA a fl 2 d all) e:=by
 have hw:wantF 2=64:=rfl
 unfold knownA
 rw [hw]
 by_cases ha:fl / 64 * 64≠64
 ·rw [if_pos (.inl ha)]
  exact (kn_fa2 fl X da _ dc la _ lc all w hf rfl hln hr (bne_iff_ne.2 (by omega))).mono fun e w' ⟨a9,c9,he,ho,hb⟩=>⟨a9,c9,he,ho,keeps_box hb⟩
 have g1:((fl:Int) / 64 * 64 != 64)=false:=by rw [bne_eq_false_iff_eq]; omega
 by_cases hb:fl / 32 % 2=1
 ·rw [if_pos (.inr ⟨hb,by decide⟩)]
  exact (kn_fb2 fl X da _ dc la _ lc all w hf rfl hln hr g1 (beq_iff_eq.2 (by omega))).mono fun e w' ⟨a9,c9,he,ho,hb⟩=>⟨a9,c9,he,ho,keeps_box hb⟩
 rw [if_neg (by omega)]
 have g2:((fl:Int) / 32 % 2 == 1)=false:=beq_false_of_ne (by omega)
 rw [if_neg (show ¬ sizeBad 2 d=true from by rw [show sizeBad 2 d=false from decide_eq_false (by omega)]; decide)]
 rw [if_neg (by decide)]
 rw [if_pos rfl]
 cases hsg:segsRun (fun q=>d.getD q 0) d.length 0 [] with
 | none=>exact kn_no2 fl X B a da _ dc la _ lc d all w hf hX hB rfl hdc hrd g1 g2 hdl hsg
 | some p=>exact kn_ok2 fl X B a da _ dc la _ lc d all w hf hX hB rfl hdc hrd g1 g2 hdl p hsg
theorem known_3 (fl:Nat)(X B:Nat)(a:At)(da:Option Addr)(dc:Nat)(la:Option Addr)(lc:Nat)(d all:List Nat)(w:World)(hf:fl < 256)(hX:Box w X B a)(hB:B≤w.heap.size)(hdc:d.length≤dc)(hrd:BRd w da d)(hln:all.length≤60000)(hr:BRd w la all)(hdX:∀ x,da=some x→0 < d.length→x.block < X)(hlX:∀ x,la=some x→0 < all.length→x.block < X)(hrl:a.raws.length≤5000)(hcl:a.comms.length≤5000)(hdl:d.length≤10000) :
  Calls Tryz.prog 50 #[.pointer (some ⟨X,0,none⟩),.int .i64 (fl:Int),.int .i64 3,.slice da d.length dc,.slice la all.length lc] w fun e w'=>KnRes X B w w' (knownA a fl 3 d all) e:=by
 have hw:wantF 3=64:=rfl
 unfold knownA
 rw [hw]
 by_cases ha:fl / 64 * 64≠64
 ·rw [if_pos (.inl ha)]
  exact (kn_fa3 fl X da _ dc la _ lc all w hf rfl hln hr (bne_iff_ne.2 (by omega))).mono fun e w' ⟨a9,c9,he,ho,hb⟩=>⟨a9,c9,he,ho,keeps_box hb⟩
 have g1:((fl:Int) / 64 * 64 != 64)=false:=by rw [bne_eq_false_iff_eq]; omega
 by_cases hb:fl / 32 % 2=1
 ·rw [if_pos (.inr ⟨hb,by decide⟩)]
  exact (kn_fb3 fl X da _ dc la _ lc all w hf rfl hln hr g1 (beq_iff_eq.2 (by omega))).mono fun e w' ⟨a9,c9,he,ho,hb⟩=>⟨a9,c9,he,ho,keeps_box hb⟩
 rw [if_neg (by omega)]
 have g2:((fl:Int) / 32 % 2 == 1)=false:=beq_false_of_ne (by omega)
 by_cases hs0:d.length≠4
 ·rw [if_pos (show sizeBad 3 d=true from decide_eq_true (by omega))]
  exact (kn_s3 fl X da _ dc la _ lc all w hf rfl hln hr g1 g2 (bne_iff_ne.2 (by omega))).mono fun e w' ⟨a9,c9,he,ho,hb⟩=>⟨a9,c9,he,ho,keeps_box hb⟩
 have hs:d.length=4:=by omega
 rw [if_neg (show ¬ sizeBad 3 d=true from by rw [show sizeBad 3 d=false from decide_eq_false (by omega)]; decide)]
 rw [if_neg (by decide)]
 rw [if_neg (by decide)]
 rw [if_pos rfl]
 cases hh:hopB (numL d) with
 | false=>exact kn_no3 fl X B a da _ dc la _ lc d all w hf hX hB rfl hdc hrd rfl hln hr g1 g2 (fun x hx h0 e=>by have:=hlX x hx h0; omega) hs hh
 | true=>exact kn_ok3 fl X B a da _ dc la _ lc d all w hf hX hB rfl hdc hrd g1 g2 hs hh
theorem known_4 (fl:Nat)(X B:Nat)(a:At)(da:Option Addr)(dc:Nat)(la:Option Addr)(lc:Nat)(d all:List Nat)(w:World)(hf:fl < 256)(hX:Box w X B a)(hB:B≤w.heap.size)(hdc:d.length≤dc)(hrd:BRd w da d)(hln:all.length≤60000)(hr:BRd w la all)(hdX:∀ x,da=some x→0 < d.length→x.block < X)(hlX:∀ x,la=some x→0 < all.length→x.block < X)(hrl:a.raws.length≤5000)(hcl:a.comms.length≤5000)(hdl:d.length≤10000) :
  Calls Tryz.prog 50 #[.pointer (some ⟨X,0,none⟩),.int .i64 (fl:Int),.int .i64 4,.slice da d.length dc,.slice la all.length lc] w fun e w'=>KnRes X B w w' (knownA a fl 4 d all) e:=by
 have hw:wantF 4=128:=rfl
 unfold knownA
 rw [hw]
 by_cases ha:fl / 64 * 64≠128
 ·rw [if_pos (.inl ha)]
  exact (kn_fa4 fl X da _ dc la _ lc all w hf rfl hln hr (bne_iff_ne.2 (by omega))).mono fun e w' ⟨a9,c9,he,ho,hb⟩=>⟨a9,c9,he,ho,keeps_box hb⟩
 have g1:((fl:Int) / 64 * 64 != 128)=false:=by rw [bne_eq_false_iff_eq]; omega
 by_cases hb:fl / 32 % 2=1
 ·rw [if_pos (.inr ⟨hb,by decide⟩)]
  exact (kn_fb4 fl X da _ dc la _ lc all w hf rfl hln hr g1 (beq_iff_eq.2 (by omega))).mono fun e w' ⟨a9,c9,he,ho,hb⟩=>⟨a9,c9,he,ho,keeps_box hb⟩
 rw [if_neg (by omega)]
 have g2:((fl:Int) / 32 % 2 == 1)=false:=beq_false_of_ne (by omega)
 by_cases hs0:d.length≠4
 ·rw [if_pos (show sizeBad 4 d=true from decide_eq_true (by omega))]
  exact (kn_s4 fl X da _ dc la _ lc all w hf rfl hln hr g1 g2 (bne_iff_ne.2 (by omega))).mono fun e w' ⟨a9,c9,he,ho,hb⟩=>⟨a9,c9,he,ho,keeps_box hb⟩
 have hs:d.length=4:=by omega
 rw [if_neg (show ¬ sizeBad 4 d=true from by rw [show sizeBad 4 d=false from decide_eq_false (by omega)]; decide)]
 rw [if_neg (by decide)]
 rw [if_neg (by decide)]
 rw [if_neg (by decide)]
 rw [if_pos rfl]
 exact kn_ok4 fl X B a da _ dc la _ lc d all w hf hX hB rfl hdc hrd g1 g2 hs
theorem known_5 (fl:Nat)(X B:Nat)(a:At)(da:Option Addr)(dc:Nat)(la:Option Addr)(lc:Nat)(d all:List Nat)(w:World)(hf:fl < 256)(hX:Box w X B a)(hB:B≤w.heap.size)(hdc:d.length≤dc)(hrd:BRd w da d)(hln:all.length≤60000)(hr:BRd w la all)(hdX:∀ x,da=some x→0 < d.length→x.block < X)(hlX:∀ x,la=some x→0 < all.length→x.block < X)(hrl:a.raws.length≤5000)(hcl:a.comms.length≤5000)(hdl:d.length≤10000) :
  Calls Tryz.prog 50 #[.pointer (some ⟨X,0,none⟩),.int .i64 (fl:Int),.int .i64 5,.slice da d.length dc,.slice la all.length lc] w fun e w'=>KnRes X B w w' (knownA a fl 5 d all) e:=by
 have hw:wantF 5=64:=rfl
 unfold knownA
 rw [hw]
 by_cases ha:fl / 64 * 64≠64
 ·rw [if_pos (.inl ha)]
  exact (kn_fa5 fl X da _ dc la _ lc all w hf rfl hln hr (bne_iff_ne.2 (by omega))).mono fun e w' ⟨a9,c9,he,ho,hb⟩=>⟨a9,c9,he,ho,keeps_box hb⟩
 have g1:((fl:Int) / 64 * 64 != 64)=false:=by rw [bne_eq_false_iff_eq]; omega
 by_cases hb:fl / 32 % 2=1
 ·rw [if_pos (.inr ⟨hb,by decide⟩)]
  exact (kn_fb5 fl X da _ dc la _ lc all w hf rfl hln hr g1 (beq_iff_eq.2 (by omega))).mono fun e w' ⟨a9,c9,he,ho,hb⟩=>⟨a9,c9,he,ho,keeps_box hb⟩
 rw [if_neg (by omega)]
 have g2:((fl:Int) / 32 % 2 == 1)=false:=beq_false_of_ne (by omega)
 by_cases hs0:d.length≠4
 ·rw [if_pos (show sizeBad 5 d=true from decide_eq_true (by omega))]
  exact (kn_s5 fl X da _ dc la _ lc all w hf rfl hln hr g1 g2 (bne_iff_ne.2 (by omega))).mono fun e w' ⟨a9,c9,he,ho,hb⟩=>⟨a9,c9,he,ho,keeps_box hb⟩
 have hs:d.length=4:=by omega
 rw [if_neg (show ¬ sizeBad 5 d=true from by rw [show sizeBad 5 d=false from decide_eq_false (by omega)]; decide)]
 rw [if_neg (by decide)]
 rw [if_neg (by decide)]
 rw [if_neg (by decide)]
 rw [if_neg (by decide)]
 rw [if_pos rfl]
 exact kn_ok5 fl X B a da _ dc la _ lc d all w hf hX hB rfl hdc hrd g1 g2 hs
theorem known_6 (fl:Nat)(X B:Nat)(a:At)(da:Option Addr)(dc:Nat)(la:Option Addr)(lc:Nat)(d all:List Nat)(w:World)(hf:fl < 256)(hX:Box w X B a)(hB:B≤w.heap.size)(hdc:d.length≤dc)(hrd:BRd w da d)(hln:all.length≤60000)(hr:BRd w la all)(hdX:∀ x,da=some x→0 < d.length→x.block < X)(hlX:∀ x,la=some x→0 < all.length→x.block < X)(hrl:a.raws.length≤5000)(hcl:a.comms.length≤5000)(hdl:d.length≤10000) :
  Calls Tryz.prog 50 #[.pointer (some ⟨X,0,none⟩),.int .i64 (fl:Int),.int .i64 6,.slice da d.length dc,.slice la all.length lc] w fun e w'=>KnRes X B w w' (knownA a fl 6 d all) e:=by
 have hw:wantF 6=64:=rfl
 unfold knownA
 rw [hw]
 by_cases ha:fl / 64 * 64≠64
 ·rw [if_pos (.inl ha)]
  exact (kn_fa6 fl X da _ dc la _ lc all w hf rfl hln hr (bne_iff_ne.2 (by omega))).mono fun e w' ⟨a9,c9,he,ho,hb⟩=>⟨a9,c9,he,ho,keeps_box hb⟩
 have g1:((fl:Int) / 64 * 64 != 64)=false:=by rw [bne_eq_false_iff_eq]; omega
 by_cases hb:fl / 32 % 2=1
 ·rw [if_pos (.inr ⟨hb,by decide⟩)]
  exact (kn_fb6 fl X da _ dc la _ lc all w hf rfl hln hr g1 (beq_iff_eq.2 (by omega))).mono fun e w' ⟨a9,c9,he,ho,hb⟩=>⟨a9,c9,he,ho,keeps_box hb⟩
 rw [if_neg (by omega)]
 have g2:((fl:Int) / 32 % 2 == 1)=false:=beq_false_of_ne (by omega)
 by_cases hs0:d.length≠0
 ·rw [if_pos (show sizeBad 6 d=true from decide_eq_true (by omega))]
  exact (kn_s6 fl X da _ dc la _ lc all w hf rfl hln hr g1 g2 (bne_iff_ne.2 (by omega))).mono fun e w' ⟨a9,c9,he,ho,hb⟩=>⟨a9,c9,he,ho,keeps_box hb⟩
 have hs:d.length=0:=by omega
 rw [if_neg (show ¬ sizeBad 6 d=true from by rw [show sizeBad 6 d=false from decide_eq_false (by omega)]; decide)]
 rw [if_neg (by decide)]
 rw [if_neg (by decide)]
 rw [if_neg (by decide)]
 rw [if_neg (by decide)]
 rw [if_neg (by decide)]
 rw [if_neg (by decide)]
 exact kn_ok6 fl X B a da _ dc la _ lc d all w hf hX hB rfl hdc hrd g1 g2 hrl hs
theorem known_7 (fl:Nat)(X B:Nat)(a:At)(da:Option Addr)(dc:Nat)(la:Option Addr)(lc:Nat)(d all:List Nat)(w:World)(hf:fl < 256)(hX:Box w X B a)(hB:B≤w.heap.size)(hdc:d.length≤dc)(hrd:BRd w da d)(hln:all.length≤60000)(hr:BRd w la all)(hdX:∀ x,da=some x→0 < d.length→x.block < X)(hlX:∀ x,la=some x→0 < all.length→x.block < X)(hrl:a.raws.length≤5000)(hcl:a.comms.length≤5000)(hdl:d.length≤10000) :
  Calls Tryz.prog 50 #[.pointer (some ⟨X,0,none⟩),.int .i64 (fl:Int),.int .i64 7,.slice da d.length dc,.slice la all.length lc] w fun e w'=>KnRes X B w w' (knownA a fl 7 d all) e:=by
 have hw:wantF 7=192:=rfl
 unfold knownA
 rw [hw]
 by_cases ha:fl / 64 * 64≠192
 ·rw [if_pos (.inl ha)]
  exact (kn_fa7 fl X da _ dc la _ lc all w hf rfl hln hr (bne_iff_ne.2 (by omega))).mono fun e w' ⟨a9,c9,he,ho,hb⟩=>⟨a9,c9,he,ho,keeps_box hb⟩
 have g1:((fl:Int) / 64 * 64 != 192)=false:=by rw [bne_eq_false_iff_eq]; omega
 rw [if_neg (by omega)]
 by_cases hs0:d.length≠8
 ·rw [if_pos (show sizeBad 7 d=true from decide_eq_true (by omega))]
  exact (kn_s7 fl X da _ dc la _ lc all w hf rfl hln hr g1 _ rfl (bne_iff_ne.2 (by omega))).mono fun e w' ⟨a9,c9,he,ho,hb⟩=>⟨a9,c9,he,ho,keeps_box hb⟩
 have hs:d.length=8:=by omega
 rw [if_neg (show ¬ sizeBad 7 d=true from by rw [show sizeBad 7 d=false from decide_eq_false (by omega)]; decide)]
 rw [if_neg (by decide)]
 rw [if_neg (by decide)]
 rw [if_neg (by decide)]
 rw [if_neg (by decide)]
 rw [if_neg (by decide)]
 rw [if_neg (by decide)]
 exact kn_ok7 fl X B a da _ dc la _ lc d all w hf hX hB rfl hdc hrd g1 _ rfl hrl hs
theorem known_8 (fl:Nat)(X B:Nat)(a:At)(da:Option Addr)(dc:Nat)(la:Option Addr)(lc:Nat)(d all:List Nat)(w:World)(hf:fl < 256)(hX:Box w X B a)(hB:B≤w.heap.size)(hdc:d.length≤dc)(hrd:BRd w da d)(hln:all.length≤60000)(hr:BRd w la all)(hdX:∀ x,da=some x→0 < d.length→x.block < X)(hlX:∀ x,la=some x→0 < all.length→x.block < X)(hrl:a.raws.length≤5000)(hcl:a.comms.length≤5000)(hdl:d.length≤10000) :
  Calls Tryz.prog 50 #[.pointer (some ⟨X,0,none⟩),.int .i64 (fl:Int),.int .i64 8,.slice da d.length dc,.slice la all.length lc] w fun e w'=>KnRes X B w w' (knownA a fl 8 d all) e:=by
 have hw:wantF 8=192:=rfl
 unfold knownA
 rw [hw]
 by_cases ha:fl / 64 * 64≠192
 ·rw [if_pos (.inl ha)]
  exact (kn_fa8 fl X da _ dc la _ lc all w hf rfl hln hr (bne_iff_ne.2 (by omega))).mono fun e w' ⟨a9,c9,he,ho,hb⟩=>⟨a9,c9,he,ho,keeps_box hb⟩
 have g1:((fl:Int) / 64 * 64 != 192)=false:=by rw [bne_eq_false_iff_eq]; omega
 rw [if_neg (by omega)]
 by_cases hs:d.length=0
 ·rw [if_pos (show sizeBad 8 d=true from decide_eq_true (by omega))]
  exact (kn_s8 fl X da _ dc la _ lc all w hf rfl hln hr g1 _ rfl (beq_iff_eq.2 (by omega))).mono fun e w' ⟨a9,c9,he,ho,hb⟩=>⟨a9,c9,he,ho,keeps_box hb⟩
 by_cases hs4:d.length % 4≠0
 ·rw [if_pos (show sizeBad 8 d=true from decide_eq_true (by omega))]
  exact (kn_t8 fl X da _ dc la _ lc all w hf rfl hln hr g1 _ rfl (beq_false_of_ne (by omega)) (bne_iff_ne.2 (by omega))).mono fun e w' ⟨a9,c9,he,ho,hb⟩=>⟨a9,c9,he,ho,keeps_box hb⟩
 rw [if_neg (show ¬ sizeBad 8 d=true from by rw [show sizeBad 8 d=false from decide_eq_false (by omega)]; decide)]
 rw [if_neg (by decide)]
 rw [if_neg (by decide)]
 rw [if_neg (by decide)]
 rw [if_neg (by decide)]
 rw [if_neg (by decide)]
 rw [if_pos rfl]
 by_cases hx:128 < d.length
 ·rw [if_pos hx]
  exact kn_no8 fl X B a da _ dc la _ lc d all w hf hX hB rfl hdc hrd rfl hln hr g1 _ rfl (beq_false_of_ne (by omega)) (by rw [bne_eq_false_iff_eq]; omega) (by omega)
 ·rw [if_neg hx]
  exact kn_ok8 fl X B a da _ dc la _ lc d all w hf hX hB rfl hdc hrd g1 _ rfl hdX hcl (beq_false_of_ne (by omega)) (by rw [bne_eq_false_iff_eq]; omega) (by omega)
theorem rknown_any (ty:Nat)(h1:1≤ty)(h8:ty≤8)(fl:Nat)(X B:Nat)(a:At)(da:Option Addr)(dc:Nat)(la:Option Addr)(lc:Nat)(d all:List Nat)(w:World)(hf:fl < 256)(hX:Box w X B a)(hB:B≤w.heap.size)(hdc:d.length≤dc)(hrd:BRd w da d)(hln:all.length≤60000)(hr:BRd w la all)(hdX:∀ x,da=some x→0 < d.length→x.block < X)(hlX:∀ x,la=some x→0 < all.length→x.block < X)(hrl:a.raws.length≤5000)(hcl:a.comms.length≤5000)(hdl:d.length≤10000) :
  Calls Tryz.prog 50 #[.pointer (some ⟨X,0,none⟩),.int .i64 (fl:Int),.int .i64 (ty:Int),.slice da d.length dc,.slice la all.length lc] w fun e w'=>KnRes X B w w' (knownA a fl ty d all) e:=by
 have hc:ty=1∨ty=2∨ty=3∨ty=4∨ty=5∨ty=6∨ty=7∨ty=8:=by omega
 rcases hc with rfl | rfl | rfl | rfl | rfl | rfl | rfl | rfl
 ·exact known_1 fl X B a da dc la lc d all w hf hX hB hdc hrd hln hr hdX hlX hrl hcl hdl
 ·exact known_2 fl X B a da dc la lc d all w hf hX hB hdc hrd hln hr hdX hlX hrl hcl hdl
 ·exact known_3 fl X B a da dc la lc d all w hf hX hB hdc hrd hln hr hdX hlX hrl hcl hdl
 ·exact known_4 fl X B a da dc la lc d all w hf hX hB hdc hrd hln hr hdX hlX hrl hcl hdl
 ·exact known_5 fl X B a da dc la lc d all w hf hX hB hdc hrd hln hr hdX hlX hrl hcl hdl
 ·exact known_6 fl X B a da dc la lc d all w hf hX hB hdc hrd hln hr hdX hlX hrl hcl hdl
 ·exact known_7 fl X B a da dc la lc d all w hf hX hB hdc hrd hln hr hdX hlX hrl hcl hdl
 ·exact known_8 fl X B a da dc la lc d all w hf hX hB hdc hrd hln hr hdX hlX hrl hcl hdl
theorem insR_len (r:Int×Int×List Nat):∀ l:List (Int×Int×List Nat),(insR r l).length=l.length+1
 | []=>rfl
 | x :: l=>by
  rw [insR]
  split
  ·rfl
  ·rw [List.length_cons,insR_len r l,List.length_cons]
theorem numsL_length (d:List Nat):(numsL d).length=d.length / 4:=by unfold numsL; simp
theorem applyA_more {a a':At}{fl ty:Nat}{d all:List Nat} (h:applyA a fl ty d all=.inr a'):a'.raws.length≤a.raws.length+1∧4 * a'.comms.length≤4 * a.comms.length+d.length:=by
 have key:∀ x:At,(Sum.inr x:Res)=.inr a'→(x.raws.length≤a.raws.length+1∧4 * x.comms.length≤4 * a.comms.length+d.length)→a'.raws.length≤a.raws.length+1∧4 * a'.comms.length≤4 * a.comms.length+d.length:=fun x e hx=>by
  cases e
  exact hx
 have bad:∀ n,(Sum.inl n:Res)=.inr a'→a'.raws.length≤a.raws.length+1∧4 * a'.comms.length≤4 * a.comms.length+d.length:=fun n e=>by cases e
 have same:a.raws.length≤a.raws.length+1∧4 * a.comms.length≤4 * a.comms.length+d.length:=by omega
 have ins:∀ r,(insR r a.raws).length≤a.raws.length+1∧4 * a.comms.length≤4 * a.comms.length+d.length:=fun r=>by rw [insR_len]; omega
 have com:a.raws.length≤a.raws.length+1∧4 * (a.comms++numsL d).length≤4 * a.comms.length+d.length:=by rw [List.length_append,numsL_length]; omega
 unfold applyA at h
 split at h
 ·unfold knownA at h
  split at h
  ·exact bad _ h
  split at h
  ·exact bad _ h
  split at h
  ·split at h
   ·exact bad _ h
   ·exact key _ h same
  split at h
  ·split at h
   ·exact bad _ h
   ·exact key _ h same
  split at h
  ·split at h
   ·exact key _ h same
   ·exact bad _ h
  split at h
  ·exact key _ h same
  split at h
  ·exact key _ h same
  split at h
  ·split at h
   ·exact bad _ h
   ·exact key _ h com
  exact key _ h (ins _)
 split at h
 ·exact bad _ h
 split at h
 ·exact key _ h same
 split at h
 ·exact bad _ h
 split at h
 ·exact key _ h (ins _)
 ·exact key _ h same
structure RdSt (bs:List Nat) (w wq:World) (rest:List Nat) (a':Option Addr) (x:At) (seen:List Nat):Prop where
 rd:BRd w a' rest
 box:Box wq (w.heap.size+1+1) (w.heap.size+1+1+1+1) x
 z2:wq.heap[w.heap.size]?=some (.cells #[.int .i64 0,.slice none 0 0,.int .u32 0,.int .i64 0,.int .i64 0,.slice none 0 0,.slice none 0 0] 34 (0,0))
 z3:wq.heap[w.heap.size+1]?=some (.cells #[.int .i64 0,.int .i64 0,.slice none 0 0] 38 (0,0))
 stood:Stood wq (w.heap.size+1+1+1) seen
 bel:Below w.heap.size w wq
 sz:w.heap.size+1+1+1+1≤wq.heap.size
 run:readA bs=runA rest x seen
 cr:3 * x.raws.length+rest.length≤bs.length
 cc:4 * x.comms.length+rest.length≤bs.length
def rdW (w:World):World:=(((w.alloc (.cells #[.int .i64 0,.slice none 0 0,.int .u32 0,.int .i64 0,.int .i64 0,.slice none 0 0,.slice none 0 0] 34)).alloc (.cells #[.int .i64 0,.int .i64 0,.slice none 0 0] 38)).alloc (.cells #[.int .i64 0,.slice none 0 0,.int .u32 0,.int .i64 (-1),.int .i64 (-1),.slice none 0 0,.slice none 0 0] 34)).alloc (.cells (Array.replicate 256 (.bool false)) 99)
theorem rd_start (a:Option Addr)(bs:List Nat)(w:World)(h:BRd w a bs):RdSt bs w (rdW w) bs a ⟨0,[],0,-1,-1,[],[]⟩ []:=by
 have hb:Below w.heap.size w (rdW w):=((((Below.refl _ _).alloc (Nat.le_refl _) _).alloc (by simp) _).alloc (by simp; omega) _).alloc (by simp; omega) _
 have hX:(rdW w).heap[w.heap.size+1+1]?=some (.cells #[.int .i64 0,.slice none 0 0,.int .u32 0,.int .i64 (-1),.int .i64 (-1),.slice none 0 0,.slice none 0 0] 34 (0,0)):=by
  unfold rdW
  rw [heap_alloc_old _ _ (by simp)]
  have:=heap_alloc_new ((w.alloc (.cells #[.int .i64 0,.slice none 0 0,.int .u32 0,.int .i64 0,.int .i64 0,.slice none 0 0,.slice none 0 0] 34)).alloc (.cells #[.int .i64 0,.int .i64 0,.slice none 0 0] 38)) (.cells #[.int .i64 0,.slice none 0 0,.int .u32 0,.int .i64 (-1),.int .i64 (-1),.slice none 0 0,.slice none 0 0] 34)
  simpa using this
 have c:∀ (j:Nat) (v:Value),#[Value.int .i64 0,.slice none 0 0,.int .u32 0,.int .i64 (-1),.int .i64 (-1),.slice none 0 0,.slice none 0 0][j]?=some v→(rdW w).cell? ⟨w.heap.size+1+1,j,none⟩=some v:=fun j v hj=>by
  simp only [World.cell?,hX]
  exact hj
 refine ⟨h,⟨c 0 _ rfl,⟨none,0,c 1 _ rfl,OwnPath.nil _ _⟩,c 2 _ rfl,c 3 _ rfl,c 4 _ rfl,⟨none,0,c 5 _ rfl,own_nil _ _ _ _⟩,⟨none,0,c 6 _ rfl,OwnRaws.nil _ _⟩,fun j=>by simp [World.frozen?,hX],by omega⟩,?_,?_,?_,hb,by unfold rdW; simp,rfl,by simp,by simp⟩
 ·unfold rdW
  rw [heap_alloc_old _ _ (by simp; omega),heap_alloc_old _ _ (by simp; omega),heap_alloc_old _ _ (by simp)]
  exact heap_alloc_new _ _
 ·unfold rdW
  rw [heap_alloc_old _ _ (by simp),heap_alloc_old _ _ (by simp)]
  have:=heap_alloc_new (w.alloc (.cells #[.int .i64 0,.slice none 0 0,.int .u32 0,.int .i64 0,.int .i64 0,.slice none 0 0,.slice none 0 0] 34)) (.cells #[.int .i64 0,.int .i64 0,.slice none 0 0] 38)
  simpa using this
 ·have:=stood_new (((w.alloc (.cells #[.int .i64 0,.slice none 0 0,.int .u32 0,.int .i64 0,.int .i64 0,.slice none 0 0,.slice none 0 0] 34)).alloc (.cells #[.int .i64 0,.int .i64 0,.slice none 0 0] 38)).alloc (.cells #[.int .i64 0,.slice none 0 0,.int .u32 0,.int .i64 (-1),.int .i64 (-1),.slice none 0 0,.slice none 0 0] 34))
  unfold rdW
  simpa using this
section
variable {bs:List Nat}{w wq wp:World}{rest:List Nat}{a':Option Addr}{x:At}{seen:List Nat}
theorem RdSt.later (h:RdSt bs w wq rest a' x seen)(hb:Below wq.heap.size wq wp):RdSt bs w wp rest a' x seen:=by
 have hs:=h.sz
 exact ⟨h.rd,h.box.later hb,by rw [hb.block _ (by omega)]; exact h.z2,by rw [hb.block _ (by omega)]; exact h.z3,h.stood.keeps (Keeps.of_below hb (fun _=>False)) id,h.bel.trans (hb.mono h.bel.size),Nat.le_trans h.sz hb.size,h.run,h.cr,h.cc⟩
theorem RdSt.next {wm:World}{rest2:List Nat}{a2:Option Addr}{x2:At}{seen2:List Nat} (h:RdSt bs w wq rest a' x seen) (hm:Keeps (fun k=>k=w.heap.size+1+1+1) wq wm) (hst:Stood wm (w.heap.size+1+1+1) seen2) (hk:Keeps (NotBox (w.heap.size+1+1) (w.heap.size+1+1+1+1)) wm wp) (hbox:Box wp (w.heap.size+1+1) (w.heap.size+1+1+1+1) x2) (hrd:BRd w a2 rest2) (hrun:readA bs=runA rest2 x2 seen2) (h1:3 * x2.raws.length+rest2.length≤bs.length) (h2:4 * x2.comms.length+rest2.length≤bs.length):RdSt bs w wp rest2 a2 x2 seen2:=by
 have hs:=h.sz
 have hs2:=hm.size
 have hbm:Below w.heap.size w wm:=h.bel.trans (hm.below _ h.bel.size (fun b hb=>by omega))
 refine ⟨hrd,hbox,?_,?_,hst.keeps hk (by unfold NotBox; omega),hbm.trans (hk.below _ hbm.size (fun b hb=>by unfold NotBox at hb; omega)),Nat.le_trans hs (Nat.le_trans hs2 hk.size),hrun,h1,h2⟩
 ·rw [hk.block _ (by omega) (by unfold NotBox; omega),hm.block _ (by omega) (by omega)]; exact h.z2
 ·rw [hk.block _ (by omega) (by unfold NotBox; omega),hm.block _ (by omega) (by omega)]; exact h.z3
theorem knownA_three {x:At}{fl ty:Nat}{d all:List Nat}{nn:Nat×Nat×List Nat} (h:knownA x fl ty d all=.inl nn):nn.1=3∧(nn.2.2=all∨nn.2.2=[]):=by
 have key:∀ (s:Nat) (l:List Nat),(Sum.inl (3,s,l):Res)=.inl nn→(l=all∨l=[])→nn.1=3∧(nn.2.2=all∨nn.2.2=[]):=fun s l e hl=>by
  cases e
  exact ⟨rfl,hl⟩
 have bad:∀ y:At,(Sum.inr y:Res)=.inl nn→nn.1=3∧(nn.2.2=all∨nn.2.2=[]):=fun y e=>by cases e
 unfold knownA at h
 split at h
 ·exact key _ _ h (.inl rfl)
 split at h
 ·exact key _ _ h (.inl rfl)
 split at h
 ·split at h
  ·exact key _ _ h (.inl rfl)
  ·exact bad _ h
 split at h
 ·split at h
  ·exact key _ _ h (.inr rfl)
  ·exact bad _ h
 split at h
 ·split at h
  ·exact bad _ h
  ·exact key _ _ h (.inl rfl)
 split at h
 ·exact bad _ h
 split at h
 ·exact bad _ h
 split at h
 ·split at h
  ·exact key _ _ h (.inl rfl)
  ·exact bad _ h
 exact bad _ h
theorem RdSt.low (h:RdSt bs w wq rest a' x seen):∀ y,a'=some y→0 < rest.length→y.block < w.heap.size:=fun y hy hp=>h.rd.1.lt y hy hp
end
theorem set_same {W:World}{g:Nat}{c:Array Value}{t:TypeId} (h:W.heap[g]?=some (.cells c t (0,0))) (j:Nat) (v:Value) (e:c.setIfInBounds j v=c):W.setCell ⟨g,j,none⟩ v=W:=by
 rw [setCell_eq_setRow W _ _ _ _ _ _ h,e,setRow_self W _ _ _ _ h]
theorem z7_zero {W:World}{g:Nat}{t:TypeId} (h:W.heap[g]?=some (.cells #[.int .i64 0,.slice none 0 0,.int .u32 0,.int .i64 0,.int .i64 0,.slice none 0 0,.slice none 0 0] t (0,0))):((((((W.setCell ⟨g,0,none⟩ (.int .i64 0)).setCell ⟨g,1,none⟩ (.slice none 0 0)).setCell ⟨g,2,none⟩ (.int .u32 0)).setCell ⟨g,3,none⟩ (.int .i64 0)).setCell ⟨g,4,none⟩ (.int .i64 0)).setCell ⟨g,5,none⟩ (.slice none 0 0)).setCell ⟨g,6,none⟩ (.slice none 0 0)=W:=by
 rw [set_same h 0 _ rfl,set_same h 1 _ rfl,set_same h 2 _ rfl,set_same h 3 _ rfl,set_same h 4 _ rfl,set_same h 5 _ rfl,set_same h 6 _ rfl]
theorem cells_of {W:World}{g:Nat}{c:Array Value}{t:TypeId} (h:W.heap[g]?=some (.cells c t (0,0))) (j:Nat):W.cell? ⟨g,j,none⟩=c[j]?∧W.frozen? ⟨g,j,none⟩=false:=by
 refine ⟨?_,?_⟩ <;> simp [World.cell?,World.frozen?,h]
structure RdZ (w wq:World):Prop where
 z2:wq.heap[w.heap.size]?=some (.cells #[.int .i64 0,.slice none 0 0,.int .u32 0,.int .i64 0,.int .i64 0,.slice none 0 0,.slice none 0 0] 34 (0,0))
 z3:wq.heap[w.heap.size+1]?=some (.cells #[.int .i64 0,.int .i64 0,.slice none 0 0] 38 (0,0))
 bel:Below w.heap.size w wq
 sz:w.heap.size+1+1+1+1≤wq.heap.size
theorem RdSt.zero {bs:List Nat}{w wq:World}{rest:List Nat}{a':Option Addr}{x:At}{seen:List Nat} (h:RdSt bs w wq rest a' x seen):RdZ w wq:=⟨h.z2,h.z3,h.bel,h.sz⟩
theorem RdZ.keeps {w wq wp:World}{F:Nat→Prop} (h:RdZ w wq) (hk:Keeps F wq wp) (hF:∀ k,F k→w.heap.size+1 < k):RdZ w wp:=by
 have hs:=h.sz
 exact ⟨by rw [hk.block _ (by omega) (fun e=>by have:=hF _ e; omega)]; exact h.z2,by rw [hk.block _ (by omega) (fun e=>by have:=hF _ e; omega)]; exact h.z3,h.bel.trans (hk.below _ h.bel.size (fun k e=>by have:=hF _ e; omega)),Nat.le_trans hs hk.size⟩
theorem RdZ.later {w wq wp:World}(h:RdZ w wq)(hb:Below wq.heap.size wq wp):RdZ w wp:=h.keeps (Keeps.of_below hb (fun _=>False)) (fun _ e=>e.elim)
end Go.Proofs.YtogbjeaceboemaaGreatDoor
