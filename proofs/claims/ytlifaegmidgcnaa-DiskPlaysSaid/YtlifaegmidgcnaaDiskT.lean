/-
  Closed facts of the program that every row of this seat asks for, and the bounds of an argument of type int. No condition.
-/
import Derived.Test.YtlifaegmidgcnaaRows
import Derived.Test.YtlifaegmidgcnaaLaw
import Derived.Handed
import Derived.JoinedOf
namespace Go.Proofs.Ytlifaegmidgcnaa
open Go.ChangeShapes Go.WideShapes Go.ChangeAt Go.RowKit

theorem own : ownKnob Try.prog.godebug = none := by kernel_rfl
theorem laidOut : laidOutB Try.prog = true := by kernel_rfl
theorem cellsInt : Try.prog.cellsOf 3 = 1 := by kernel_rfl
theorem cellsStr : Try.prog.cellsOf 9 = 1 := by kernel_rfl
theorem bounds_int {x : Int} (h : (Lit.int .i64 x).wf = true) : -9223372036854775808 ≤ x ∧ x ≤ 9223372036854775807 := by
  simpa [Lit.wf, IntKind.min, IntKind.max, IntKind.signed, IntKind.bits] using h
end Go.Proofs.Ytlifaegmidgcnaa
