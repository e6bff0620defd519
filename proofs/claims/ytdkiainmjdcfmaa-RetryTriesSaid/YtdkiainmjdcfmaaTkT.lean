/-
  Closed facts of the program that every row without a table of this seat asks for. No condition.
-/
import Derived.Test.YtdkiainmjdcfmaaRows
import Derived.Test.YtdkiainmjdcfmaaLaw
import Derived.Handed
import Derived.JoinedOf
namespace Go.Proofs.Ytdkiainmjdcfmaa
open Go.ChangeShapes Go.WideShapes Go.ChangeAt Go.RowKit

theorem own : ownKnob Try.prog.godebug = none := by kernel_rfl
theorem laidOut : laidOutB Try.prog = true := by kernel_rfl
theorem cellsInt : Try.prog.cellsOf 3 = 1 := by kernel_rfl
end Go.Proofs.Ytdkiainmjdcfmaa
