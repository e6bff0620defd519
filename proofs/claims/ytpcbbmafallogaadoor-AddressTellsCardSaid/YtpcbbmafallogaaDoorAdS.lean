/-
  A world in which both tables that the rows list hold what they list, for the witness; what every row of this seat leans on. No condition.
-/
import Derived.Test.YtpcbbmafallogaaDoorRows
import Derived.Test.YtpcbbmafallogaaDoorLaw
import Derived.Deep.DeepHandedRow
import Derived.Stop.LaidErr
import Derived.Test.YtpcbbmafallogaaDoorAdF
namespace Go.Proofs.YtpcbbmafallogaaDoor
open Go.ChangeShapes Go.WideShapes Go.ChangeAt Go.RowKit

theorem own : ownKnob Tryd.prog.godebug = none := by kernel_rfl
theorem laidOut : laidOutB Tryd.prog = true := by kernel_rfl
theorem cellsInt : Tryd.prog.cellsOf 3 = 1 := by kernel_rfl
def numsA : List Int := [128, 191, 160, 191, 128, 159, 144, 191, 128, 143, 0, 0, 0, 0, 0, 0, 0, 0, 0, 0, 0, 0, 0, 0, 0, 0, 0, 0, 0, 0, 0, 0]
def layA : Obj → Obj
  | .cells _ t frozen => .cells (numsA.map (Value.int .u8)).toArray t frozen
  | o => o
def layB : Obj → Obj
  | .cells _ t frozen => .cells (Go.Pinned.utf8FirstZ.map fun n : Nat => Value.int .u8 (n : Int)).toArray t frozen
  | o => o
noncomputable def laidWorld (os : Os) : World :=
  { World.holding Tryd.prog os ⟨#[], #[], []⟩ with heap := ((World.holding Tryd.prog os ⟨#[], #[], []⟩).heap.modify 2 layA).modify 1 layB }
end Go.Proofs.YtpcbbmafallogaaDoor
