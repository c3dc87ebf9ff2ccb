/- Acts and addresses that are read. -/
import Derived.Test.YtfecknbneonidaaBase
namespace Go.Proofs.Ytfecknbneonidaa
open Go.RowKit
set_option maxRecDepth 100000

/-- What is to be done: dropped or set; a prefix; a number. -/
structure ActRow where
  dr : Bool
  A : Nat
  L : Int
  V : Int
/-- A row of acts that is read. -/
def ActsRd (w : World) (g o : Nat) (l : List ActRow) : Prop := ∀ i t, l[i]? = some t → w.cell? ⟨g, o + i * 4, none⟩ = some (.bool t.dr) ∧ w.cell? ⟨g, o + i * 4 + 1, none⟩ = some (.int .u32 (t.A : Int)) ∧ w.cell? ⟨g, o + i * 4 + 2, none⟩ = some (.int .i64 t.L) ∧ w.cell? ⟨g, o + i * 4 + 3, none⟩ = some (.int .i64 t.V) ∧ t.A < 4294967296
/-- A row of addresses that is read. -/
def AddrsRd (w : World) (g o : Nat) (l : List Nat) : Prop := ∀ (i t : Nat), l[i]? = some t → w.cell? ⟨g, o + i, none⟩ = some (.int .u32 (t : Int)) ∧ t < 4294967296
end Go.Proofs.Ytfecknbneonidaa
