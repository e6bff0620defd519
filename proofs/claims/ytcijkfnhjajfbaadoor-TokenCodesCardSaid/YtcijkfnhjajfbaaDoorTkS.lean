/-
  What the rows' list of package-level variables gives the walks over strconv: the table of powers of ten holds its numbers; and a world in which all three tables do, for the witness. No condition.
-/
import Derived.Test.YtcijkfnhjajfbaaDoorRows
import Derived.Test.YtcijkfnhjajfbaaDoorLaw
import Derived.Deep.DeepHandedRow
import Derived.Lib.LaidTab
import Derived.Stop.LaidErr
import Derived.Test.YtcijkfnhjajfbaaDoorTkI
import Derived.Test.YtcijkfnhjajfbaaDoorTkN
import Derived.Test.YtcijkfnhjajfbaaDoorTkF
namespace Go.Proofs.YtcijkfnhjajfbaaDoor
open Go.ChangeShapes Go.WideShapes Go.ChangeAt Go.RowKit

theorem own : ownKnob Tryd.prog.godebug = none := by kernel_rfl
theorem laidOut : laidOutB Tryd.prog = true := by kernel_rfl
theorem gP : Tryd.prog.globalNamed "internal/strconv.uint64pow10" = some 0 := by kernel_rfl
theorem tP : (Tryd.prog.globals[0]?).map (·.type) = some 48 := by kernel_rfl
theorem cP : Tryd.prog.cellsOf 48 = 20 := by kernel_rfl
theorem cU : Tryd.prog.cellsOf 22 = 1 := by kernel_rfl
def numsA : List Int := [0, 1, 28, 2, 29, 14, 24, 3, 30, 22, 20, 15, 25, 17, 4, 8, 31, 27, 13, 23, 21, 19, 16, 7, 26, 12, 18, 6, 11, 5, 10, 9]
def numsB : List Int := [0, 1, 56, 2, 57, 49, 28, 3, 61, 58, 42, 50, 38, 29, 17, 4, 62, 47, 59, 36, 45, 43, 51, 22, 53, 39, 33, 30, 24, 18, 12, 5, 63, 55, 48, 27, 60, 41, 37, 16, 46, 35, 44, 21, 52, 32, 23, 11, 54, 26, 40, 15, 34, 20, 31, 10, 25, 14, 19, 9, 13, 8, 7, 6]
def numsP : List Int := [1, 10, 100, 1000, 10000, 100000, 1000000, 10000000, 100000000, 1000000000, 10000000000, 100000000000, 1000000000000, 10000000000000, 100000000000000, 1000000000000000, 10000000000000000, 100000000000000000, 1000000000000000000, 10000000000000000000]
def laidList : List (String × DataW Unit) := [("math/bits.deBruijn32tab", Rows.laid_math_bits_deBruijn32tab), ("math/bits.deBruijn64tab", Rows.laid_math_bits_deBruijn64tab), ("internal/strconv.uint64pow10", Rows.laid_internal_strconv_uint64pow10)]

/-- WHAT THE ROWS' LIST GIVES. -/
theorem tab_of_laid {W : World} (h : laidMetH Tryd.prog laidList W) : Lib.TabIs Tryd.prog W "internal/strconv.uint64pow10" .u64 Lib.pow10Tab := by
  have h0 : laidMet Tryd.prog laidList W := h
  have h1 : Lib.TabIs Tryd.prog W "internal/strconv.uint64pow10" .u64 numsP := Lib.tabIs_of_head (rest := []) gP tP Tryd.underlying48 Tryd.underlying22 cU cP (laidMet.tail (laidMet.tail h0))
  rw [show Lib.pow10Tab = numsP by decide +kernel]
  exact h1
def layA : Obj → Obj
  | .cells _ t frozen => .cells (numsA.map (Value.int .u8)).toArray t frozen
  | o => o
def layB : Obj → Obj
  | .cells _ t frozen => .cells (numsB.map (Value.int .u8)).toArray t frozen
  | o => o
def layP : Obj → Obj
  | .cells _ t frozen => .cells (numsP.map (Value.int .u64)).toArray t frozen
  | o => o
noncomputable def laidWorld (os : Os) : World :=
  { World.holding Tryd.prog os ⟨#[], #[], []⟩ with heap := (((World.holding Tryd.prog os ⟨#[], #[], []⟩).heap.modify 1 layA).modify 2 layB).modify 0 layP }
end Go.Proofs.YtcijkfnhjajfbaaDoor
