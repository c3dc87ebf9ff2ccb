import Derived.Test.YtdojlejehjbliaaGreatDoorPA31
import Derived.Test.YtdojlejehjbliaaGreatDoorPA32
namespace Go.Proofs.YtdojlejehjbliaaGreatDoor
set_option linter.unnecessarySimpa false
open _root_.Go.Value renaming slice → I,int → J,pointer → K
open _root_.Option renaming none → V,some → Q
open _root_.Go.IntKind renaming i64 → Z
open _root_.Go.Obj renaming cells → Y
open _root_.Go.Proofs.Tryz renaming prog → U
open Go.RowKit
set_option maxRecDepth 100000
set_option linter.unusedVariables false
theorem Qyj (fl:Nat)(X B:Nat)(a:At)(da:Option Addr)(dc:Nat)(la:Option Addr)(lc:Nat)(d all:List Nat)(w:World)(hf:fl < 256)(hX:Box w X B a)(hB:B≤w.heap.size)(hdc:d.length≤dc)(hrd:BRd w da d)(hln:all.length≤60000)(hr:BRd w la all)(hdX:∀ x,da=Q x→0 < d.length→x.block < X)(hlX:∀ x,la=Q x→0 < all.length→x.block < X)(hrl:a.raws.length≤5000)(hcl:a.comms.length≤5000)(hdl:d.length≤10000) :
  Calls U 47 #[K (Q ⟨X,0,V⟩),J Z (fl:Int),J Z 1,I da d.length dc,I la all.length lc] w fun e w'=>Qlm X B w w' (Qc8 a fl 1 d all) e:=by
 have hw:Qh6 1=64:=rfl
 unfold Qc8
 rw [hw]
 by_cases ha:fl / 64 * 64≠64
 ·rw [if_pos (.inl ha)]
  exact (Ja8 fl X da _ dc la _ lc all w hf rfl hln hr (bne_iff_ne.2 (by omega))).mono fun e w' ⟨a9,c9,he,ho,hb⟩=>⟨a9,c9,he,ho,Qat hb⟩
 have g1:((fl:Int) / 64 * 64 != 64)=false:=by rw [bne_eq_false_iff_eq]; omega
 by_cases hb:fl / 32 % 2=1
 ·rw [if_pos (.inr ⟨hb,by decide⟩)]
  exact (Jbg fl X da _ dc la _ lc all w hf rfl hln hr g1 (beq_iff_eq.2 (by omega))).mono fun e w' ⟨a9,c9,he,ho,hb⟩=>⟨a9,c9,he,ho,Qat hb⟩
 rw [if_neg (by omega)]
 have g2:((fl:Int) / 32 % 2 == 1)=false:=beq_false_of_ne (by omega)
 by_cases hs0:d.length≠1
 ·rw [if_pos (show Qbz 1 d=true from decide_eq_true (by omega))]
  exact (Jcd fl X da _ dc la _ lc all w hf rfl hln hr g1 g2 (bne_iff_ne.2 (by omega))).mono fun e w' ⟨a9,c9,he,ho,hb⟩=>⟨a9,c9,he,ho,Qat hb⟩
 have hs:d.length=1:=by omega
 rw [if_neg (show ¬ Qbz 1 d=true from by rw [show Qbz 1 d=false from decide_eq_false (by omega)]; decide)]
 rw [if_pos rfl]
 by_cases hx:2 < d.getD 0 0
 ·rw [if_pos hx]
  exact Ja6 fl X B a da _ dc la _ lc d all w hf hX hB rfl hdc hrd rfl hln hr g1 g2 hs (by omega)
 ·rw [if_neg hx]
  exact Ja3 fl X B a da _ dc la _ lc d all w hf hX hB rfl hdc hrd g1 g2 hs (decide_eq_false (by omega))
theorem Qzq (fl:Nat)(X B:Nat)(a:At)(da:Option Addr)(dc:Nat)(la:Option Addr)(lc:Nat)(d all:List Nat)(w:World)(hf:fl < 256)(hX:Box w X B a)(hB:B≤w.heap.size)(hdc:d.length≤dc)(hrd:BRd w da d)(hln:all.length≤60000)(hr:BRd w la all)(hdX:∀ x,da=Q x→0 < d.length→x.block < X)(hlX:∀ x,la=Q x→0 < all.length→x.block < X)(hrl:a.raws.length≤5000)(hcl:a.comms.length≤5000)(hdl:d.length≤10000) :
  Calls U 47 #[K (Q ⟨X,0,V⟩),J Z (fl:Int),J Z 2,I da d.length dc,I la all.length lc] w fun e w'=>Qlm X B w w' (Qc8 a fl 2 d all) e:=by
 have hw:Qh6 2=64:=rfl
 unfold Qc8
 rw [hw]
 by_cases ha:fl / 64 * 64≠64
 ·rw [if_pos (.inl ha)]
  exact (Jaj fl X da _ dc la _ lc all w hf rfl hln hr (bne_iff_ne.2 (by omega))).mono fun e w' ⟨a9,c9,he,ho,hb⟩=>⟨a9,c9,he,ho,Qat hb⟩
 have g1:((fl:Int) / 64 * 64 != 64)=false:=by rw [bne_eq_false_iff_eq]; omega
 by_cases hb:fl / 32 % 2=1
 ·rw [if_pos (.inr ⟨hb,by decide⟩)]
  exact (Ja2 fl X da _ dc la _ lc all w hf rfl hln hr g1 (beq_iff_eq.2 (by omega))).mono fun e w' ⟨a9,c9,he,ho,hb⟩=>⟨a9,c9,he,ho,Qat hb⟩
 rw [if_neg (by omega)]
 have g2:((fl:Int) / 32 % 2 == 1)=false:=beq_false_of_ne (by omega)
 rw [if_neg (show ¬ Qbz 2 d=true from by rw [show Qbz 2 d=false from decide_eq_false (by omega)]; decide)]
 rw [if_neg (by decide)]
 rw [if_pos rfl]
 cases hsg:Qa3 (fun q=>d.getD q 0) d.length 0 [] with
 | none=>exact Jat fl X B a da _ dc la _ lc d all w hf hX hB rfl hdc hrd g1 g2 hdl hsg
 | some p=>exact Jbb fl X B a da _ dc la _ lc d all w hf hX hB rfl hdc hrd g1 g2 hdl p hsg
theorem Qyx (fl:Nat)(X B:Nat)(a:At)(da:Option Addr)(dc:Nat)(la:Option Addr)(lc:Nat)(d all:List Nat)(w:World)(hf:fl < 256)(hX:Box w X B a)(hB:B≤w.heap.size)(hdc:d.length≤dc)(hrd:BRd w da d)(hln:all.length≤60000)(hr:BRd w la all)(hdX:∀ x,da=Q x→0 < d.length→x.block < X)(hlX:∀ x,la=Q x→0 < all.length→x.block < X)(hrl:a.raws.length≤5000)(hcl:a.comms.length≤5000)(hdl:d.length≤10000) :
  Calls U 47 #[K (Q ⟨X,0,V⟩),J Z (fl:Int),J Z 3,I da d.length dc,I la all.length lc] w fun e w'=>Qlm X B w w' (Qc8 a fl 3 d all) e:=by
 have hw:Qh6 3=64:=rfl
 unfold Qc8
 rw [hw]
 by_cases ha:fl / 64 * 64≠64
 ·rw [if_pos (.inl ha)]
  exact (Jag fl X da _ dc la _ lc all w hf rfl hln hr (bne_iff_ne.2 (by omega))).mono fun e w' ⟨a9,c9,he,ho,hb⟩=>⟨a9,c9,he,ho,Qat hb⟩
 have g1:((fl:Int) / 64 * 64 != 64)=false:=by rw [bne_eq_false_iff_eq]; omega
 by_cases hb:fl / 32 % 2=1
 ·rw [if_pos (.inr ⟨hb,by decide⟩)]
  exact (Jai fl X da _ dc la _ lc all w hf rfl hln hr g1 (beq_iff_eq.2 (by omega))).mono fun e w' ⟨a9,c9,he,ho,hb⟩=>⟨a9,c9,he,ho,Qat hb⟩
 rw [if_neg (by omega)]
 have g2:((fl:Int) / 32 % 2 == 1)=false:=beq_false_of_ne (by omega)
 by_cases hs0:d.length≠4
 ·rw [if_pos (show Qbz 3 d=true from decide_eq_true (by omega))]
  exact (Jbx fl X da _ dc la _ lc all w hf rfl hln hr g1 g2 (bne_iff_ne.2 (by omega))).mono fun e w' ⟨a9,c9,he,ho,hb⟩=>⟨a9,c9,he,ho,Qat hb⟩
 have hs:d.length=4:=by omega
 rw [if_neg (show ¬ Qbz 3 d=true from by rw [show Qbz 3 d=false from decide_eq_false (by omega)]; decide)]
 rw [if_neg (by decide)]
 rw [if_neg (by decide)]
 rw [if_pos rfl]
 cases hh:Qk0 (Qf8 d) with
 | false=>exact Jbp fl X B a da _ dc la _ lc d all w hf hX hB rfl hdc hrd rfl hln hr g1 g2 (fun x hx h0 e=>by have:=hlX x hx h0; omega) hs hh
 | true=>exact Jaq fl X B a da _ dc la _ lc d all w hf hX hB rfl hdc hrd g1 g2 hs hh
theorem Qyw (fl:Nat)(X B:Nat)(a:At)(da:Option Addr)(dc:Nat)(la:Option Addr)(lc:Nat)(d all:List Nat)(w:World)(hf:fl < 256)(hX:Box w X B a)(hB:B≤w.heap.size)(hdc:d.length≤dc)(hrd:BRd w da d)(hln:all.length≤60000)(hr:BRd w la all)(hdX:∀ x,da=Q x→0 < d.length→x.block < X)(hlX:∀ x,la=Q x→0 < all.length→x.block < X)(hrl:a.raws.length≤5000)(hcl:a.comms.length≤5000)(hdl:d.length≤10000) :
  Calls U 47 #[K (Q ⟨X,0,V⟩),J Z (fl:Int),J Z 4,I da d.length dc,I la all.length lc] w fun e w'=>Qlm X B w w' (Qc8 a fl 4 d all) e:=by
 have hw:Qh6 4=128:=rfl
 unfold Qc8
 rw [hw]
 by_cases ha:fl / 64 * 64≠128
 ·rw [if_pos (.inl ha)]
  exact (Jam fl X da _ dc la _ lc all w hf rfl hln hr (bne_iff_ne.2 (by omega))).mono fun e w' ⟨a9,c9,he,ho,hb⟩=>⟨a9,c9,he,ho,Qat hb⟩
 have g1:((fl:Int) / 64 * 64 != 128)=false:=by rw [bne_eq_false_iff_eq]; omega
 by_cases hb:fl / 32 % 2=1
 ·rw [if_pos (.inr ⟨hb,by decide⟩)]
  exact (Jax fl X da _ dc la _ lc all w hf rfl hln hr g1 (beq_iff_eq.2 (by omega))).mono fun e w' ⟨a9,c9,he,ho,hb⟩=>⟨a9,c9,he,ho,Qat hb⟩
 rw [if_neg (by omega)]
 have g2:((fl:Int) / 32 % 2 == 1)=false:=beq_false_of_ne (by omega)
 by_cases hs0:d.length≠4
 ·rw [if_pos (show Qbz 4 d=true from decide_eq_true (by omega))]
  exact (Jce fl X da _ dc la _ lc all w hf rfl hln hr g1 g2 (bne_iff_ne.2 (by omega))).mono fun e w' ⟨a9,c9,he,ho,hb⟩=>⟨a9,c9,he,ho,Qat hb⟩
 have hs:d.length=4:=by omega
 rw [if_neg (show ¬ Qbz 4 d=true from by rw [show Qbz 4 d=false from decide_eq_false (by omega)]; decide)]
 rw [if_neg (by decide)]
 rw [if_neg (by decide)]
 rw [if_neg (by decide)]
 rw [if_pos rfl]
 exact Jad fl X B a da _ dc la _ lc d all w hf hX hB rfl hdc hrd g1 g2 hs
theorem Qyr (fl:Nat)(X B:Nat)(a:At)(da:Option Addr)(dc:Nat)(la:Option Addr)(lc:Nat)(d all:List Nat)(w:World)(hf:fl < 256)(hX:Box w X B a)(hB:B≤w.heap.size)(hdc:d.length≤dc)(hrd:BRd w da d)(hln:all.length≤60000)(hr:BRd w la all)(hdX:∀ x,da=Q x→0 < d.length→x.block < X)(hlX:∀ x,la=Q x→0 < all.length→x.block < X)(hrl:a.raws.length≤5000)(hcl:a.comms.length≤5000)(hdl:d.length≤10000) :
  Calls U 47 #[K (Q ⟨X,0,V⟩),J Z (fl:Int),J Z 5,I da d.length dc,I la all.length lc] w fun e w'=>Qlm X B w w' (Qc8 a fl 5 d all) e:=by
 have hw:Qh6 5=64:=rfl
 unfold Qc8
 rw [hw]
 by_cases ha:fl / 64 * 64≠64
 ·rw [if_pos (.inl ha)]
  exact (Jbl fl X da _ dc la _ lc all w hf rfl hln hr (bne_iff_ne.2 (by omega))).mono fun e w' ⟨a9,c9,he,ho,hb⟩=>⟨a9,c9,he,ho,Qat hb⟩
 have g1:((fl:Int) / 64 * 64 != 64)=false:=by rw [bne_eq_false_iff_eq]; omega
 by_cases hb:fl / 32 % 2=1
 ·rw [if_pos (.inr ⟨hb,by decide⟩)]
  exact (Jbc fl X da _ dc la _ lc all w hf rfl hln hr g1 (beq_iff_eq.2 (by omega))).mono fun e w' ⟨a9,c9,he,ho,hb⟩=>⟨a9,c9,he,ho,Qat hb⟩
 rw [if_neg (by omega)]
 have g2:((fl:Int) / 32 % 2 == 1)=false:=beq_false_of_ne (by omega)
 by_cases hs0:d.length≠4
 ·rw [if_pos (show Qbz 5 d=true from decide_eq_true (by omega))]
  exact (Jca fl X da _ dc la _ lc all w hf rfl hln hr g1 g2 (bne_iff_ne.2 (by omega))).mono fun e w' ⟨a9,c9,he,ho,hb⟩=>⟨a9,c9,he,ho,Qat hb⟩
 have hs:d.length=4:=by omega
 rw [if_neg (show ¬ Qbz 5 d=true from by rw [show Qbz 5 d=false from decide_eq_false (by omega)]; decide)]
 rw [if_neg (by decide)]
 rw [if_neg (by decide)]
 rw [if_neg (by decide)]
 rw [if_neg (by decide)]
 rw [if_pos rfl]
 exact Jbh fl X B a da _ dc la _ lc d all w hf hX hB rfl hdc hrd g1 g2 hs
theorem Qz4 (fl:Nat)(X B:Nat)(a:At)(da:Option Addr)(dc:Nat)(la:Option Addr)(lc:Nat)(d all:List Nat)(w:World)(hf:fl < 256)(hX:Box w X B a)(hB:B≤w.heap.size)(hdc:d.length≤dc)(hrd:BRd w da d)(hln:all.length≤60000)(hr:BRd w la all)(hdX:∀ x,da=Q x→0 < d.length→x.block < X)(hlX:∀ x,la=Q x→0 < all.length→x.block < X)(hrl:a.raws.length≤5000)(hcl:a.comms.length≤5000)(hdl:d.length≤10000) :
  Calls U 47 #[K (Q ⟨X,0,V⟩),J Z (fl:Int),J Z 6,I da d.length dc,I la all.length lc] w fun e w'=>Qlm X B w w' (Qc8 a fl 6 d all) e:=by
 have hw:Qh6 6=64:=rfl
 unfold Qc8
 rw [hw]
 by_cases ha:fl / 64 * 64≠64
 ·rw [if_pos (.inl ha)]
  exact (Jab fl X da _ dc la _ lc all w hf rfl hln hr (bne_iff_ne.2 (by omega))).mono fun e w' ⟨a9,c9,he,ho,hb⟩=>⟨a9,c9,he,ho,Qat hb⟩
 have g1:((fl:Int) / 64 * 64 != 64)=false:=by rw [bne_eq_false_iff_eq]; omega
 by_cases hb:fl / 32 % 2=1
 ·rw [if_pos (.inr ⟨hb,by decide⟩)]
  exact (Jal fl X da _ dc la _ lc all w hf rfl hln hr g1 (beq_iff_eq.2 (by omega))).mono fun e w' ⟨a9,c9,he,ho,hb⟩=>⟨a9,c9,he,ho,Qat hb⟩
 rw [if_neg (by omega)]
 have g2:((fl:Int) / 32 % 2 == 1)=false:=beq_false_of_ne (by omega)
 by_cases hs0:d.length≠0
 ·rw [if_pos (show Qbz 6 d=true from decide_eq_true (by omega))]
  exact (Jb1 fl X da _ dc la _ lc all w hf rfl hln hr g1 g2 (bne_iff_ne.2 (by omega))).mono fun e w' ⟨a9,c9,he,ho,hb⟩=>⟨a9,c9,he,ho,Qat hb⟩
 have hs:d.length=0:=by omega
 rw [if_neg (show ¬ Qbz 6 d=true from by rw [show Qbz 6 d=false from decide_eq_false (by omega)]; decide)]
 rw [if_neg (by decide)]
 rw [if_neg (by decide)]
 rw [if_neg (by decide)]
 rw [if_neg (by decide)]
 rw [if_neg (by decide)]
 rw [if_neg (by decide)]
 exact Ja7 fl X B a da _ dc la _ lc d all w hf hX hB rfl hdc hrd g1 g2 hrl hs
theorem Qy3 (fl:Nat)(X B:Nat)(a:At)(da:Option Addr)(dc:Nat)(la:Option Addr)(lc:Nat)(d all:List Nat)(w:World)(hf:fl < 256)(hX:Box w X B a)(hB:B≤w.heap.size)(hdc:d.length≤dc)(hrd:BRd w da d)(hln:all.length≤60000)(hr:BRd w la all)(hdX:∀ x,da=Q x→0 < d.length→x.block < X)(hlX:∀ x,la=Q x→0 < all.length→x.block < X)(hrl:a.raws.length≤5000)(hcl:a.comms.length≤5000)(hdl:d.length≤10000) :
  Calls U 47 #[K (Q ⟨X,0,V⟩),J Z (fl:Int),J Z 7,I da d.length dc,I la all.length lc] w fun e w'=>Qlm X B w w' (Qc8 a fl 7 d all) e:=by
 have hw:Qh6 7=192:=rfl
 unfold Qc8
 rw [hw]
 by_cases ha:fl / 64 * 64≠192
 ·rw [if_pos (.inl ha)]
  exact (Jay fl X da _ dc la _ lc all w hf rfl hln hr (bne_iff_ne.2 (by omega))).mono fun e w' ⟨a9,c9,he,ho,hb⟩=>⟨a9,c9,he,ho,Qat hb⟩
 have g1:((fl:Int) / 64 * 64 != 192)=false:=by rw [bne_eq_false_iff_eq]; omega
 rw [if_neg (by omega)]
 by_cases hs0:d.length≠8
 ·rw [if_pos (show Qbz 7 d=true from decide_eq_true (by omega))]
  exact (Jb3 fl X da _ dc la _ lc all w hf rfl hln hr g1 _ rfl (bne_iff_ne.2 (by omega))).mono fun e w' ⟨a9,c9,he,ho,hb⟩=>⟨a9,c9,he,ho,Qat hb⟩
 have hs:d.length=8:=by omega
 rw [if_neg (show ¬ Qbz 7 d=true from by rw [show Qbz 7 d=false from decide_eq_false (by omega)]; decide)]
 rw [if_neg (by decide)]
 rw [if_neg (by decide)]
 rw [if_neg (by decide)]
 rw [if_neg (by decide)]
 rw [if_neg (by decide)]
 rw [if_neg (by decide)]
 exact Jbj fl X B a da _ dc la _ lc d all w hf hX hB rfl hdc hrd g1 _ rfl hrl hs
theorem Qzu (fl:Nat)(X B:Nat)(a:At)(da:Option Addr)(dc:Nat)(la:Option Addr)(lc:Nat)(d all:List Nat)(w:World)(hf:fl < 256)(hX:Box w X B a)(hB:B≤w.heap.size)(hdc:d.length≤dc)(hrd:BRd w da d)(hln:all.length≤60000)(hr:BRd w la all)(hdX:∀ x,da=Q x→0 < d.length→x.block < X)(hlX:∀ x,la=Q x→0 < all.length→x.block < X)(hrl:a.raws.length≤5000)(hcl:a.comms.length≤5000)(hdl:d.length≤10000) :
  Calls U 47 #[K (Q ⟨X,0,V⟩),J Z (fl:Int),J Z 8,I da d.length dc,I la all.length lc] w fun e w'=>Qlm X B w w' (Qc8 a fl 8 d all) e:=by
 have hw:Qh6 8=192:=rfl
 unfold Qc8
 rw [hw]
 by_cases ha:fl / 64 * 64≠192
 ·rw [if_pos (.inl ha)]
  exact (Jao fl X da _ dc la _ lc all w hf rfl hln hr (bne_iff_ne.2 (by omega))).mono fun e w' ⟨a9,c9,he,ho,hb⟩=>⟨a9,c9,he,ho,Qat hb⟩
 have g1:((fl:Int) / 64 * 64 != 192)=false:=by rw [bne_eq_false_iff_eq]; omega
 rw [if_neg (by omega)]
 by_cases hs:d.length=0
 ·rw [if_pos (show Qbz 8 d=true from decide_eq_true (by omega))]
  exact (Jb5 fl X da _ dc la _ lc all w hf rfl hln hr g1 _ rfl (beq_iff_eq.2 (by omega))).mono fun e w' ⟨a9,c9,he,ho,hb⟩=>⟨a9,c9,he,ho,Qat hb⟩
 by_cases hs4:d.length % 4≠0
 ·rw [if_pos (show Qbz 8 d=true from decide_eq_true (by omega))]
  exact (Jb4 fl X da _ dc la _ lc all w hf rfl hln hr g1 _ rfl (beq_false_of_ne (by omega)) (bne_iff_ne.2 (by omega))).mono fun e w' ⟨a9,c9,he,ho,hb⟩=>⟨a9,c9,he,ho,Qat hb⟩
 rw [if_neg (show ¬ Qbz 8 d=true from by rw [show Qbz 8 d=false from decide_eq_false (by omega)]; decide)]
 rw [if_neg (by decide)]
 rw [if_neg (by decide)]
 rw [if_neg (by decide)]
 rw [if_neg (by decide)]
 rw [if_neg (by decide)]
 rw [if_pos rfl]
 by_cases hx:128 < d.length
 ·rw [if_pos hx]
  exact Jau fl X B a da _ dc la _ lc d all w hf hX hB rfl hdc hrd rfl hln hr g1 _ rfl (beq_false_of_ne (by omega)) (by rw [bne_eq_false_iff_eq]; omega) (by omega)
 ·rw [if_neg hx]
  exact Jar fl X B a da _ dc la _ lc d all w hf hX hB rfl hdc hrd g1 _ rfl hdX hcl (beq_false_of_ne (by omega)) (by rw [bne_eq_false_iff_eq]; omega) (by omega)
theorem Qsg (ty:Nat)(h1:1≤ty)(h8:ty≤8)(fl:Nat)(X B:Nat)(a:At)(da:Option Addr)(dc:Nat)(la:Option Addr)(lc:Nat)(d all:List Nat)(w:World)(hf:fl < 256)(hX:Box w X B a)(hB:B≤w.heap.size)(hdc:d.length≤dc)(hrd:BRd w da d)(hln:all.length≤60000)(hr:BRd w la all)(hdX:∀ x,da=Q x→0 < d.length→x.block < X)(hlX:∀ x,la=Q x→0 < all.length→x.block < X)(hrl:a.raws.length≤5000)(hcl:a.comms.length≤5000)(hdl:d.length≤10000) :
  Calls U 47 #[K (Q ⟨X,0,V⟩),J Z (fl:Int),J Z (ty:Int),I da d.length dc,I la all.length lc] w fun e w'=>Qlm X B w w' (Qc8 a fl ty d all) e:=by
 have hc:ty=1∨ty=2∨ty=3∨ty=4∨ty=5∨ty=6∨ty=7∨ty=8:=by omega
 rcases hc with rfl | rfl | rfl | rfl | rfl | rfl | rfl | rfl
 ·exact Qyj fl X B a da dc la lc d all w hf hX hB hdc hrd hln hr hdX hlX hrl hcl hdl
 ·exact Qzq fl X B a da dc la lc d all w hf hX hB hdc hrd hln hr hdX hlX hrl hcl hdl
 ·exact Qyx fl X B a da dc la lc d all w hf hX hB hdc hrd hln hr hdX hlX hrl hcl hdl
 ·exact Qyw fl X B a da dc la lc d all w hf hX hB hdc hrd hln hr hdX hlX hrl hcl hdl
 ·exact Qyr fl X B a da dc la lc d all w hf hX hB hdc hrd hln hr hdX hlX hrl hcl hdl
 ·exact Qz4 fl X B a da dc la lc d all w hf hX hB hdc hrd hln hr hdX hlX hrl hcl hdl
 ·exact Qy3 fl X B a da dc la lc d all w hf hX hB hdc hrd hln hr hdX hlX hrl hcl hdl
 ·exact Qzu fl X B a da dc la lc d all w hf hX hB hdc hrd hln hr hdX hlX hrl hcl hdl
theorem Qjh (r:Int×Int×List Nat):∀ l:List (Int×Int×List Nat),(Qf7 r l).length=l.length+1
 | []=>rfl
 | x :: l=>by
  rw [Qf7]
  split
  ·rfl
  ·rw [List.length_cons,Qjh r l,List.length_cons]
theorem Qiq (d:List Nat):(Qcl d).length=d.length / 4:=by unfold Qcl; simp
theorem Qo4 {a a':At}{fl ty:Nat}{d all:List Nat} (h:Qdz a fl ty d all=.inr a'):a'.raws.length≤a.raws.length+1∧4 * a'.comms.length≤4 * a.comms.length+d.length:=by
 have key:∀ x:At,(Sum.inr x:Res)=.inr a'→(x.raws.length≤a.raws.length+1∧4 * x.comms.length≤4 * a.comms.length+d.length)→a'.raws.length≤a.raws.length+1∧4 * a'.comms.length≤4 * a.comms.length+d.length:=fun x e hx=>by
  cases e
  exact hx
 have bad:∀ n,(Sum.inl n:Res)=.inr a'→a'.raws.length≤a.raws.length+1∧4 * a'.comms.length≤4 * a.comms.length+d.length:=fun n e=>by cases e
 have same:a.raws.length≤a.raws.length+1∧4 * a.comms.length≤4 * a.comms.length+d.length:=by omega
 have ins:∀ r,(Qf7 r a.raws).length≤a.raws.length+1∧4 * a.comms.length≤4 * a.comms.length+d.length:=fun r=>by rw [Qjh]; omega
 have com:a.raws.length≤a.raws.length+1∧4 * (a.comms++Qcl d).length≤4 * a.comms.length+d.length:=by rw [List.length_append,Qiq]; omega
 unfold Qdz at h
 split at h
 ·unfold Qc8 at h
  split at h
  ·exact bad _ h
  split at h
  ·exact bad _ h
  split at h
  ·split at h
   ·exact bad _ h
   ·exact key _ h same
  split at h
  ·split at h
   ·exact bad _ h
   ·exact key _ h same
  split at h
  ·split at h
   ·exact key _ h same
   ·exact bad _ h
  split at h
  ·exact key _ h same
  split at h
  ·exact key _ h same
  split at h
  ·split at h
   ·exact bad _ h
   ·exact key _ h com
  exact key _ h (ins _)
 split at h
 ·exact bad _ h
 split at h
 ·exact key _ h same
 split at h
 ·exact bad _ h
 split at h
 ·exact key _ h (ins _)
 ·exact key _ h same
structure Qsp (bs:List Nat) (w wq:World) (rest:List Nat) (a':Option Addr) (x:At) (seen:List Nat):Prop where
 rd:BRd w a' rest
 box:Box wq (w.heap.size+1+1) (w.heap.size+1+1+1+1) x
 z2:wq.heap[w.heap.size]?=Q (Y #[J Z 0,I V 0 0,J .u32 0,J Z 0,J Z 0,I V 0 0,I V 0 0] 34 (0,0))
 z3:wq.heap[w.heap.size+1]?=Q (Y #[J Z 0,J Z 0,I V 0 0] 38 (0,0))
 stood:Qh0 wq (w.heap.size+1+1+1) seen
 bel:Below w.heap.size w wq
 sz:w.heap.size+1+1+1+1≤wq.heap.size
 run:Qbv bs=Qpp rest x seen
 cr:3 * x.raws.length+rest.length≤bs.length
 cc:4 * x.comms.length+rest.length≤bs.length
def rdW (w:World):World:=(((w.alloc (Y #[J Z 0,I V 0 0,J .u32 0,J Z 0,J Z 0,I V 0 0,I V 0 0] 34)).alloc (Y #[J Z 0,J Z 0,I V 0 0] 38)).alloc (Y #[J Z 0,I V 0 0,J .u32 0,J Z (-1),J Z (-1),I V 0 0,I V 0 0] 34)).alloc (Y (Array.replicate 256 (.bool false)) 97)
theorem Qwh (a:Option Addr)(bs:List Nat)(w:World)(h:BRd w a bs):Qsp bs w (rdW w) bs a ⟨0,[],0,-1,-1,[],[]⟩ []:=by
 have hb:Below w.heap.size w (rdW w):=((((Below.refl _ _).alloc (Nat.le_refl _) _).alloc (by simp) _).alloc (by simp; omega) _).alloc (by simp; omega) _
 have hX:(rdW w).heap[w.heap.size+1+1]?=Q (Y #[J Z 0,I V 0 0,J .u32 0,J Z (-1),J Z (-1),I V 0 0,I V 0 0] 34 (0,0)):=by
  unfold rdW
  rw [heap_alloc_old _ _ (by simp)]
  have:=heap_alloc_new ((w.alloc (Y #[J Z 0,I V 0 0,J .u32 0,J Z 0,J Z 0,I V 0 0,I V 0 0] 34)).alloc (Y #[J Z 0,J Z 0,I V 0 0] 38)) (Y #[J Z 0,I V 0 0,J .u32 0,J Z (-1),J Z (-1),I V 0 0,I V 0 0] 34)
  simpa using this
 have c:∀ (j:Nat) (v:Value),#[Value.int Z 0,I V 0 0,J .u32 0,J Z (-1),J Z (-1),I V 0 0,I V 0 0][j]?=Q v→(rdW w).cell? ⟨w.heap.size+1+1,j,V⟩=Q v:=fun j v hj=>by
  simp only [World.cell?,hX]
  exact hj
 refine ⟨h,⟨c 0 _ rfl,⟨V,0,c 1 _ rfl,Qa7.nil _ _⟩,c 2 _ rfl,c 3 _ rfl,c 4 _ rfl,⟨V,0,c 5 _ rfl,Qbm _ _ _ _⟩,⟨V,0,c 6 _ rfl,Qbr.nil _ _⟩,fun j=>by simp [World.frozen?,hX],by omega⟩,?_,?_,?_,hb,by unfold rdW; simp,rfl,by simp,by simp⟩
 ·unfold rdW
  rw [heap_alloc_old _ _ (by simp; omega),heap_alloc_old _ _ (by simp; omega),heap_alloc_old _ _ (by simp)]
  exact heap_alloc_new _ _
 ·unfold rdW
  rw [heap_alloc_old _ _ (by simp),heap_alloc_old _ _ (by simp)]
  have:=heap_alloc_new (w.alloc (Y #[J Z 0,I V 0 0,J .u32 0,J Z 0,J Z 0,I V 0 0,I V 0 0] 34)) (Y #[J Z 0,J Z 0,I V 0 0] 38)
  simpa using this
 ·have:=Qny (((w.alloc (Y #[J Z 0,I V 0 0,J .u32 0,J Z 0,J Z 0,I V 0 0,I V 0 0] 34)).alloc (Y #[J Z 0,J Z 0,I V 0 0] 38)).alloc (Y #[J Z 0,I V 0 0,J .u32 0,J Z (-1),J Z (-1),I V 0 0,I V 0 0] 34))
  unfold rdW
  simpa using this
section
variable {bs:List Nat}{w wq wp:World}{rest:List Nat}{a':Option Addr}{x:At}{seen:List Nat}
theorem Qsp.later (h:Qsp bs w wq rest a' x seen)(hb:Below wq.heap.size wq wp):Qsp bs w wp rest a' x seen:=by
 have hs:=h.sz
 exact ⟨h.rd,h.box.later hb,by rw [hb.block _ (by omega)]; exact h.z2,by rw [hb.block _ (by omega)]; exact h.z3,h.stood.keeps (Qae.of_below hb (fun _=>False)) id,h.bel.trans (hb.mono h.bel.size),Nat.le_trans h.sz hb.size,h.run,h.cr,h.cc⟩
theorem Qsp.next {wm:World}{rest2:List Nat}{a2:Option Addr}{x2:At}{seen2:List Nat} (h:Qsp bs w wq rest a' x seen) (hm:Qae (fun k=>k=w.heap.size+1+1+1) wq wm) (hst:Qh0 wm (w.heap.size+1+1+1) seen2) (hk:Qae (Qa2 (w.heap.size+1+1) (w.heap.size+1+1+1+1)) wm wp) (hbox:Box wp (w.heap.size+1+1) (w.heap.size+1+1+1+1) x2) (hrd:BRd w a2 rest2) (hrun:Qbv bs=Qpp rest2 x2 seen2) (h1:3 * x2.raws.length+rest2.length≤bs.length) (h2:4 * x2.comms.length+rest2.length≤bs.length):Qsp bs w wp rest2 a2 x2 seen2:=by
 have hs:=h.sz
 have hs2:=hm.size
 have hbm:Below w.heap.size w wm:=h.bel.trans (hm.below _ h.bel.size (fun b hb=>by omega))
 refine ⟨hrd,hbox,?_,?_,hst.keeps hk (by unfold Qa2; omega),hbm.trans (hk.below _ hbm.size (fun b hb=>by unfold Qa2 at hb; omega)),Nat.le_trans hs (Nat.le_trans hs2 hk.size),hrun,h1,h2⟩
 ·rw [hk.block _ (by omega) (by unfold Qa2; omega),hm.block _ (by omega) (by omega)]; exact h.z2
 ·rw [hk.block _ (by omega) (by unfold Qa2; omega),hm.block _ (by omega) (by omega)]; exact h.z3
theorem Qir {x:At}{fl ty:Nat}{d all:List Nat}{nn:Nat×Nat×List Nat} (h:Qc8 x fl ty d all=.inl nn):nn.1=3∧(nn.2.2=all∨nn.2.2=[]):=by
 have key:∀ (s:Nat) (l:List Nat),(Sum.inl (3,s,l):Res)=.inl nn→(l=all∨l=[])→nn.1=3∧(nn.2.2=all∨nn.2.2=[]):=fun s l e hl=>by
  cases e
  exact ⟨rfl,hl⟩
 have bad:∀ y:At,(Sum.inr y:Res)=.inl nn→nn.1=3∧(nn.2.2=all∨nn.2.2=[]):=fun y e=>by cases e
 unfold Qc8 at h
 split at h
 ·exact key _ _ h (.inl rfl)
 split at h
 ·exact key _ _ h (.inl rfl)
 split at h
 ·split at h
  ·exact key _ _ h (.inl rfl)
  ·exact bad _ h
 split at h
 ·split at h
  ·exact key _ _ h (.inr rfl)
  ·exact bad _ h
 split at h
 ·split at h
  ·exact bad _ h
  ·exact key _ _ h (.inl rfl)
 split at h
 ·exact bad _ h
 split at h
 ·exact bad _ h
 split at h
 ·split at h
  ·exact key _ _ h (.inl rfl)
  ·exact bad _ h
 exact bad _ h
theorem Qsp.low (h:Qsp bs w wq rest a' x seen):∀ y,a'=Q y→0 < rest.length→y.block < w.heap.size:=fun y hy hp=>h.rd.1.lt y hy hp
end
theorem Qfv {W:World}{g:Nat}{c:Array Value}{t:TypeId} (h:W.heap[g]?=Q (Y c t (0,0))) (j:Nat) (v:Value) (e:c.setIfInBounds j v=c):W.setCell ⟨g,j,V⟩ v=W:=by
 rw [setCell_eq_setRow W _ _ _ _ _ _ h,e,setRow_self W _ _ _ _ h]
theorem Qez {W:World}{g:Nat}{t:TypeId} (h:W.heap[g]?=Q (Y #[J Z 0,I V 0 0,J .u32 0,J Z 0,J Z 0,I V 0 0,I V 0 0] t (0,0))):((((((W.setCell ⟨g,0,V⟩ (J Z 0)).setCell ⟨g,1,V⟩ (I V 0 0)).setCell ⟨g,2,V⟩ (J .u32 0)).setCell ⟨g,3,V⟩ (J Z 0)).setCell ⟨g,4,V⟩ (J Z 0)).setCell ⟨g,5,V⟩ (I V 0 0)).setCell ⟨g,6,V⟩ (I V 0 0)=W:=by
 rw [Qfv h 0 _ rfl,Qfv h 1 _ rfl,Qfv h 2 _ rfl,Qfv h 3 _ rfl,Qfv h 4 _ rfl,Qfv h 5 _ rfl,Qfv h 6 _ rfl]
theorem Qag {W:World}{g:Nat}{c:Array Value}{t:TypeId} (h:W.heap[g]?=Q (Y c t (0,0))) (j:Nat):W.cell? ⟨g,j,V⟩=c[j]?∧W.frozen? ⟨g,j,V⟩=false:=by
 refine ⟨?_,?_⟩ <;> simp [World.cell?,World.frozen?,h]
structure RdZ (w wq:World):Prop where
 z2:wq.heap[w.heap.size]?=Q (Y #[J Z 0,I V 0 0,J .u32 0,J Z 0,J Z 0,I V 0 0,I V 0 0] 34 (0,0))
 z3:wq.heap[w.heap.size+1]?=Q (Y #[J Z 0,J Z 0,I V 0 0] 38 (0,0))
 bel:Below w.heap.size w wq
 sz:w.heap.size+1+1+1+1≤wq.heap.size
theorem Qsp.zero {bs:List Nat}{w wq:World}{rest:List Nat}{a':Option Addr}{x:At}{seen:List Nat} (h:Qsp bs w wq rest a' x seen):RdZ w wq:=⟨h.z2,h.z3,h.bel,h.sz⟩
theorem RdZ.keeps {w wq wp:World}{F:Nat→Prop} (h:RdZ w wq) (hk:Qae F wq wp) (hF:∀ k,F k→w.heap.size+1 < k):RdZ w wp:=by
 have hs:=h.sz
 exact ⟨by rw [hk.block _ (by omega) (fun e=>by have:=hF _ e; omega)]; exact h.z2,by rw [hk.block _ (by omega) (fun e=>by have:=hF _ e; omega)]; exact h.z3,h.bel.trans (hk.below _ h.bel.size (fun k e=>by have:=hF _ e; omega)),Nat.le_trans hs hk.size⟩
theorem RdZ.later {w wq wp:World}(h:RdZ w wq)(hb:Below wq.heap.size wq wp):RdZ w wp:=h.keeps (Qae.of_below hb (fun _=>False)) (fun _ e=>e.elim)
def Qdu (f:Nat→Nat)(i n:Nat):List Nat:=(List.range n).map fun j=>f (i+j)
theorem Qkq (f:Nat→Nat)(i n:Nat):(Qdu f i n).length=n:=by simp [Qdu]
theorem Qg5 (f:Nat→Nat)(i m n:Nat):Qdu f i (m+n)=Qdu f i m++Qdu f (i+m) n:=by
 simp [Qdu,List.range_add,Nat.add_assoc]
theorem Jbn (g:Nat→Nat)(hg:∀ q,q < 4→g q < 256):b4 ((num g:Nat):Int)=Qdu g 0 4:=by
 have h0:=hg 0 (by omega)
 have h1:=hg 1 (by omega)
 have h2:=hg 2 (by omega)
 have h3:=hg 3 (by omega)
 unfold b4 Qdu
 rw [Int.toNat_natCast]
 have e:List.range 4=[0,1,2,3]:=rfl
 rw [e]
 simp only [List.map_cons,List.map_nil,Nat.zero_add,Qyb,num]
 congr 1
 ·omega
 congr 1
 ·omega
 congr 1
 ·omega
 congr 1
 omega
theorem Qtn (f:Nat→Nat)(j:Nat):∀ n,(∀ i,i < 4 * n→f (j+i) < 256)→nums (Qcm f j n)=Qdu f j (4 * n)
 | 0,_=>rfl
 | n+1,h=>by
  rw [Qe4,Qvj,Qtn f j n (fun i hi=>h i (by omega)),Jbn _ (fun q hq=>by have:=h (4 * n+q) (by omega); rwa [← Nat.add_assoc] at this),show 4 * (n+1)=4 * n+4 from by omega,Qg5]
  simp [Qdu]
theorem Qt1 (f:Nat→Nat)(len i:Nat)(hf:∀ j,j < len→f j < 256)(hk:Qja f len i=true):Qn6 (Qfd f i)=Qdu f i (2+4 * f (i+1)):=by
 obtain ⟨h1,h2,h3⟩:i+2≤len∧(f i=1∨f i=2)∧i+2+4 * f (i+1)≤len:=of_decide_eq_true hk
 unfold Qn6 Qfd
 simp only
 rw [Qtn f (i+2) _ (fun j hj=>hf _ (by omega)),Qcf,Qg5]
 congr 1
 have e:List.range 2=[0,1]:=rfl
 unfold Qdu
 rw [e]
 simp only [List.map_cons,List.map_nil,Nat.add_zero]
 congr 1
 unfold Qx3
 rcases h2 with h2 | h2 <;> simp [h2]
theorem Qt7 (f:Nat→Nat)(len:Nat)(hf:∀ j,j < len→f j < 256):∀ (k i:Nat) (acc ss:List (Bool×List Int)),len - i≤k→i≤len→Qa3 f len i acc=Q ss→Qd3 ss=true∧encSegs ss=encSegs acc++Qdu f i (len - i)
 | k,i,acc,ss,hk,hi,h=>by
  by_cases hlt:i < len
  ·cases ho:Qja f len i with
   | false=>rw [Qib hlt ho] at h; cases h
   | true =>
    rw [Qia hlt ho] at h
    obtain ⟨h1,h2,h3⟩:i+2≤len∧(f i=1∨f i=2)∧i+2+4 * f (i+1)≤len:=of_decide_eq_true ho
    match k,hk with
    | 0,hk=>omega
    | k+1,hk =>
     obtain ⟨g1,g2⟩:=Qt7 f len hf k _ _ ss (by omega) h3 h
     refine ⟨g1,?_⟩
     rw [g2,Qm9,Qt1 f len i hf ho,List.append_assoc,show len - i=(2+4 * f (i+1))+(len - (i+2+4 * f (i+1))) from by omega,Qg5 f i (2+4 * f (i+1)),show i+(2+4 * f (i+1))=i+2+4 * f (i+1) from by omega]
  ·rw [Qew hlt] at h
   unfold fin at h
   split at h
   ·next hg =>
    injection h with h
    subst h
    refine ⟨hg,?_⟩
    rw [show len - i=0 from by omega]
    simp [Qdu]
   ·cases h
theorem Qv7 {f:Nat→Nat}{len:Nat} (hf:∀ j,j < len→f j < 256) {ss:List (Bool×List Int)} (h:Qa3 f len 0 []=Q ss):Qd3 ss=true∧Ql2 ss=Qdu f 0 len:=by
 obtain ⟨h1,h2⟩:=Qt7 f len hf len 0 [] ss (by omega) (Nat.zero_le _) h
 refine ⟨h1,?_⟩
 unfold Ql2
 rw [h1,if_pos rfl,h2]
 rfl
