/- TriePlays' walk, of any lists. -/
import Derived.Test.YtfecknbneonidaaTpC
namespace Go.Proofs.Ytfecknbneonidaa
open Go.RowKit
set_option maxRecDepth 100000

set_option maxHeartbeats 1600000 in
theorem tplays_acts (w : World) (aa ab : Option Addr) (ca cb n m : Nat) (hn : 60 < n) :
    Calls Try.prog 3 #[.slice aa n ca, .slice ab m cb] w fun e w' => e = .returned (.bool true) ∧ Below w.heap.size w w' := by
  have dn : (60 : Int) < (n : Int) := by omega
  go_enter Try.func3, Try.ntmps3
  go_wp2_with fail
  refine (answers_any _).mono ?_
  rintro e w2 ⟨rfl, hb2⟩
  have HB := hide hb2
  clear hb2
  go_wp2
  go_ret
  exact ⟨rfl, HB.out⟩
set_option maxHeartbeats 1600000 in
theorem tplays_addrs (w : World) (aa ab : Option Addr) (ca cb n m : Nat) (hn : n ≤ 60) (hm : 60 < m) :
    Calls Try.prog 3 #[.slice aa n ca, .slice ab m cb] w fun e w' => e = .returned (.bool true) ∧ Below w.heap.size w w' := by
  have dn : decide ((60 : Int) < (n : Int)) = false := decide_eq_false (by omega)
  have dm : (60 : Int) < (m : Int) := by omega
  go_enter Try.func3, Try.ntmps3
  go_wp2_with fail
  refine (answers_any _).mono ?_
  rintro e w2 ⟨rfl, hb2⟩
  have HB := hide hb2
  clear hb2
  go_wp2
  go_ret
  exact ⟨rfl, HB.out⟩
theorem triePlays_walk (w : World) (aa ab : Option Addr) (ga oa ca gb ob cb : Nat) (acts : List ActRow) (addrs : List Nat) (haa : 0 < acts.length → aa = some ⟨ga, oa, none⟩) (hab : 0 < addrs.length → ab = some ⟨gb, ob, none⟩) (ha : ActsRd w ga oa acts) (hb : AddrsRd w gb ob addrs) :
    Calls Try.prog 3 #[.slice aa acts.length ca, .slice ab addrs.length cb] w fun e w' => e = .returned (.bool true) ∧ Below w.heap.size w w' := by
  by_cases hn : 60 < acts.length
  · exact tplays_acts w aa ab ca cb _ _ hn
  · by_cases hm : 60 < addrs.length
    · exact tplays_addrs w aa ab ca cb _ _ (by omega) hm
    · exact tplays_in w aa ab ga oa ca gb ob cb acts addrs _ _ rfl rfl (by omega) (by omega) haa hab ha hb
end Go.Proofs.Ytfecknbneonidaa
