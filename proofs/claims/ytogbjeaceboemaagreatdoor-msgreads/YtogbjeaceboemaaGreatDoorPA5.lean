import Derived.Test.YtogbjeaceboemaaGreatDoorPA2
import Derived.Test.YtogbjeaceboemaaGreatDoorPA1
import Derived.Lib.AppendStr
namespace Go.Proofs.YtogbjeaceboemaaGreatDoor
open Go.RowKit
set_option maxRecDepth 100000
def capV (c:Cp):Value:=.agg #[.bool c.four,.int .i64 c.as4,.bool c.gr,.bool c.rs,.int .i64 c.tm,.bool c.fam,.bool c.fwd,.bool c.ll,.int .i64 c.lt]
def capC (c:Cp):Array Value:=#[.bool c.four,.int .i64 c.as4,.bool c.gr,.bool c.rs,.int .i64 c.tm,.bool c.fam,.bool c.fwd,.bool c.ll,.int .i64 c.lt]
theorem below_new (w:World)(o:Obj):Below w.heap.size w (w.alloc o):=(Below.refl _ _).alloc (Nat.le_refl _) _
set_option maxHeartbeats 800000 in
theorem isFour_any (c:Cp)(w:World):Calls Tryz.prog 122 #[capV c] w fun e w'=>e=.returned (.bool (gFour c))∧Below w.heap.size w w':=by
 obtain ⟨four,as4,gr,rs,tm,fam,fwd,ll,lt⟩:=c
 cases four with
 | false =>
  have HG:Hid (gFour ⟨false,as4,gr,rs,tm,fam,fwd,ll,lt⟩=decide (as4=0)):=rfl
  generalize gFour ⟨false,as4,gr,rs,tm,fam,fwd,ll,lt⟩=g at *
  unfold capV
  go_enter Tryz.func122,Tryz.ntmps122
  go_wp2
  go_ret
  exact ⟨ret_bool (by rw [HG.out]; first | rfl | (rw [Bool.eq_iff_iff]; simp)),below_new _ _⟩
 | true =>
  have HG:Hid (gFour ⟨true,as4,gr,rs,tm,fam,fwd,ll,lt⟩=decide (1≤as4∧as4≤4294967295)):=rfl
  generalize gFour ⟨true,as4,gr,rs,tm,fam,fwd,ll,lt⟩=g at *
  unfold capV
  by_cases h1:1≤as4
  ·have HD:Hid (decide (1≤as4∧as4≤4294967295)=decide (as4≤4294967295)):=by show decide _=_; rw [Bool.eq_iff_iff]; simp [h1]
   go_enter Tryz.func122,Tryz.ntmps122
   go_wp2
   go_ret
   exact ⟨ret_bool (by rw [HG.out,HD.out]),below_new _ _⟩
  ·have HD:Hid (decide (1≤as4∧as4≤4294967295)=false):=decide_eq_false (fun h9=>h1 h9.1)
   have h2:decide (1≤as4)=false:=decide_eq_false h1
   clear h1
   go_enter Tryz.func122,Tryz.ntmps122
   go_wp2
   go_ret
   exact ⟨ret_bool (by rw [HG.out,HD.out]),below_new _ _⟩
section
variable {P:Program}{a:Act}{w w':World}{K:Act→World→Prop}{Q:Exit→Act→World→Prop}{dst:Option Tmp}{ty:TypeId}{pos:String}{after:Array Edge}{gd:Option (Nat×Bool)}
theorem kept_appstr (x y:Operand):Oper.wp P { dst:=dst,op:=.call { callee:=.builtin .append,args:=#[x,y],argTypes:=#[22,9] },type:=ty,pos:=pos,after:=after,guard:=gd } a w K Q=Kept P { dst:=dst,op:=.call { callee:=.builtin .append,args:=#[x,y],argTypes:=#[22,9] },type:=ty,pos:=pos,after:=after,guard:=gd } a w K Q:=rfl
end
section
attribute [local go_sem ↓] kept_append kept_appstr
theorem orI64 (x y:Nat)(hx:x < 4294967296)(hy:y < 4294967296):bits .or .i64 (x:Int) (y:Int)=((x ||| y:Nat):Int) :=
 (bits_nat .i64 32 (by decide) (fun n h0 h1=>by rw [IntKind.wrap_i64]; simp only [Int.reducePow] at h1; omega) _ _ (by simpa using hx) (by simpa using hy)).2
theorem and64 (x y:Nat)(hx:x < 4294967296)(hy:y < 4294967296):bits .and .i64 (x:Int) (y:Int)=((x &&& y:Nat):Int) :=
 (bits_nat .i64 32 (by decide) (fun n h0 h1=>by rw [IntKind.wrap_i64]; simp only [Int.reducePow] at h1; omega) _ _ (by simpa using hx) (by simpa using hy)).1
end
end Go.Proofs.YtogbjeaceboemaaGreatDoor
