/- What a message's head tells (plain). -/
import Derived.Test.YtkmfnafecdfedaaGreatDoorHAt
import Derived.Test.YtkmfnafecdfedaaGreatDoorBrd2
import Derived.Test.YtkmfnafecdfedaaGreatDoorCpN
namespace Go.Proofs.YtkmfnafecdfedaaGreatDoor
open Go.RowKit
set_option maxRecDepth 100000

/-- How many bytes the message has, as the head says; its kind. -/
def hdSize (bs : List Nat) : Nat := 256 * bs.getD 16 0 + bs.getD 17 0
def hdKind (bs : List Nat) : Nat := bs.getD 18 0
def leastOf (k : Nat) : Nat := if k = 1 then 29 else if k = 2 then 23 else if k = 3 then 21 else 19
def mostOf (k : Nat) : Nat := if k = 4 then 19 else 4096
/-- What Head answers: how many bytes; Code, Sub, Data. -/
def headM (bs : List Nat) : Nat × Nat × Nat × List Nat :=
  if bs.length < 19 then (0, 0, 0, [])
  else if bs.take 16 ≠ List.replicate 16 255 then (0, 1, 1, [])
  else if hdSize bs < 19 ∨ 4096 < hdSize bs then (0, 1, 2, (bs.drop 16).take 2)
  else if hdKind bs < 1 ∨ 4 < hdKind bs then (0, 1, 3, (bs.drop 18).take 1)
  else if hdSize bs < leastOf (hdKind bs) ∨ mostOf (hdKind bs) < hdSize bs then (0, 1, 2, (bs.drop 16).take 2)
  else (hdSize bs, 0, 0, [])
theorem headM_short {bs : List Nat} (h : bs.length < 19) : headM bs = (0, 0, 0, []) := by unfold headM; rw [if_pos h]
theorem headM_mark {bs : List Nat} (h : ¬ bs.length < 19) (h1 : bs.take 16 ≠ List.replicate 16 255) : headM bs = (0, 1, 1, []) := by unfold headM; rw [if_neg h, if_pos h1]
theorem headM_size {bs : List Nat} (h : ¬ bs.length < 19) (h1 : ¬ bs.take 16 ≠ List.replicate 16 255) (h2 : hdSize bs < 19 ∨ 4096 < hdSize bs) : headM bs = (0, 1, 2, (bs.drop 16).take 2) := by unfold headM; rw [if_neg h, if_neg h1, if_pos h2]
theorem headM_kind {bs : List Nat} (h : ¬ bs.length < 19) (h1 : ¬ bs.take 16 ≠ List.replicate 16 255) (h2 : ¬ (hdSize bs < 19 ∨ 4096 < hdSize bs)) (h3 : hdKind bs < 1 ∨ 4 < hdKind bs) : headM bs = (0, 1, 3, (bs.drop 18).take 1) := by unfold headM; rw [if_neg h, if_neg h1, if_neg h2, if_pos h3]
theorem headM_said {bs : List Nat} (h : ¬ bs.length < 19) (h1 : ¬ bs.take 16 ≠ List.replicate 16 255) (h2 : ¬ (hdSize bs < 19 ∨ 4096 < hdSize bs)) (h3 : ¬ (hdKind bs < 1 ∨ 4 < hdKind bs)) (h4 : hdSize bs < leastOf (hdKind bs) ∨ mostOf (hdKind bs) < hdSize bs) : headM bs = (0, 1, 2, (bs.drop 16).take 2) := by unfold headM; rw [if_neg h, if_neg h1, if_neg h2, if_neg h3, if_pos h4]
theorem headM_good {bs : List Nat} (h : ¬ bs.length < 19) (h1 : ¬ bs.take 16 ≠ List.replicate 16 255) (h2 : ¬ (hdSize bs < 19 ∨ 4096 < hdSize bs)) (h3 : ¬ (hdKind bs < 1 ∨ 4 < hdKind bs)) (h4 : ¬ (hdSize bs < leastOf (hdKind bs) ∨ mostOf (hdKind bs) < hdSize bs)) : headM bs = (hdSize bs, 0, 0, []) := by unfold headM; rw [if_neg h, if_neg h1, if_neg h2, if_neg h3, if_neg h4]
end Go.Proofs.YtkmfnafecdfedaaGreatDoor
