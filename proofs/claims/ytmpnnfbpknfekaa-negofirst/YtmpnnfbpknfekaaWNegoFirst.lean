/- NegoFirst's walk. -/
import Derived.Test.YtmpnnfbpknfekaaNgF0
import Derived.Test.YtmpnnfbpknfekaaNgF1
import Derived.Test.YtmpnnfbpknfekaaNgF2
import Derived.Test.YtmpnnfbpknfekaaNgF3
namespace Go.Proofs.Ytmpnnfbpknfekaa
open Go.RowKit
set_option maxRecDepth 100000

theorem negoFirst_walk (c : Cf) (n pa : Int) (ia : Option Addr) (il ic : Nat) (oa : Option Addr) (ol oc : Nat) (bf ba bi bh : Bool) (w : World) (hid : c.id < 4294967296) (_ : I64 c.asn) (hpa : I64 pa) :
    Calls Try.prog 6 #[cfV c, pcV n pa ia il ic oa ol oc, .bool bf, .bool ba, .bool bi, .bool bh] w fun e w' => e = .returned (.bool true) ∧ Below w.heap.size w w' := by
  obtain ⟨ca, ci, cn, ch, cg, cl, cs, cd⟩ := c
  simp only at hid
  by_cases hw : ci = 4294967295
  · cases bf <;> cases ba <;> cases bi <;> cases bh
    · exact nf1_0 ca ci cn ch cg cl cs cd n pa ia il ic oa ol oc w hpa hw
    · exact nf1_1 ca ci cn ch cg cl cs cd n pa ia il ic oa ol oc w hpa hw
    · exact nf1_2 ca ci cn ch cg cl cs cd n pa ia il ic oa ol oc w hpa hw
    · exact nf1_3 ca ci cn ch cg cl cs cd n pa ia il ic oa ol oc w hpa hw
    · exact nf1_4 ca ci cn ch cg cl cs cd n pa ia il ic oa ol oc w hpa hw
    · exact nf1_5 ca ci cn ch cg cl cs cd n pa ia il ic oa ol oc w hpa hw
    · exact nf1_6 ca ci cn ch cg cl cs cd n pa ia il ic oa ol oc w hpa hw
    · exact nf1_7 ca ci cn ch cg cl cs cd n pa ia il ic oa ol oc w hpa hw
    · exact nf1_8 ca ci cn ch cg cl cs cd n pa ia il ic oa ol oc w hpa hw
    · exact nf1_9 ca ci cn ch cg cl cs cd n pa ia il ic oa ol oc w hpa hw
    · exact nf1_10 ca ci cn ch cg cl cs cd n pa ia il ic oa ol oc w hpa hw
    · exact nf1_11 ca ci cn ch cg cl cs cd n pa ia il ic oa ol oc w hpa hw
    · exact nf1_12 ca ci cn ch cg cl cs cd n pa ia il ic oa ol oc w hpa hw
    · exact nf1_13 ca ci cn ch cg cl cs cd n pa ia il ic oa ol oc w hpa hw
    · exact nf1_14 ca ci cn ch cg cl cs cd n pa ia il ic oa ol oc w hpa hw
    · exact nf1_15 ca ci cn ch cg cl cs cd n pa ia il ic oa ol oc w hpa hw
  · have hw2 : ci + 1 < 4294967296 := by omega
    cases bf <;> cases ba <;> cases bi <;> cases bh
    · exact nf0_0 ca ci cn ch cg cl cs cd n pa ia il ic oa ol oc w hpa hw2
    · exact nf0_1 ca ci cn ch cg cl cs cd n pa ia il ic oa ol oc w hpa hw2
    · exact nf0_2 ca ci cn ch cg cl cs cd n pa ia il ic oa ol oc w hpa hw2
    · exact nf0_3 ca ci cn ch cg cl cs cd n pa ia il ic oa ol oc w hpa hw2
    · exact nf0_4 ca ci cn ch cg cl cs cd n pa ia il ic oa ol oc w hpa hw2
    · exact nf0_5 ca ci cn ch cg cl cs cd n pa ia il ic oa ol oc w hpa hw2
    · exact nf0_6 ca ci cn ch cg cl cs cd n pa ia il ic oa ol oc w hpa hw2
    · exact nf0_7 ca ci cn ch cg cl cs cd n pa ia il ic oa ol oc w hpa hw2
    · exact nf0_8 ca ci cn ch cg cl cs cd n pa ia il ic oa ol oc w hpa hw2
    · exact nf0_9 ca ci cn ch cg cl cs cd n pa ia il ic oa ol oc w hpa hw2
    · exact nf0_10 ca ci cn ch cg cl cs cd n pa ia il ic oa ol oc w hpa hw2
    · exact nf0_11 ca ci cn ch cg cl cs cd n pa ia il ic oa ol oc w hpa hw2
    · exact nf0_12 ca ci cn ch cg cl cs cd n pa ia il ic oa ol oc w hpa hw2
    · exact nf0_13 ca ci cn ch cg cl cs cd n pa ia il ic oa ol oc w hpa hw2
    · exact nf0_14 ca ci cn ch cg cl cs cd n pa ia il ic oa ol oc w hpa hw2
    · exact nf0_15 ca ci cn ch cg cl cs cd n pa ia il ic oa ol oc w hpa hw2
end Go.Proofs.Ytmpnnfbpknfekaa
