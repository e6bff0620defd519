/-
  What the tables that a row lists give package mint: sha's two tables hold their numbers, No condition.
-/
import Derived.Test.YtfjdcopndkdbmaaGreatDoorTabs
import Derived.Test.YtfjdcopndkdbmaaGreatDoorMinV
namespace Go.Proofs.YtfjdcopndkdbmaaGreatDoor
open Go.ChangeShapes Go.WideShapes Go.ChangeAt Go.RowKit

theorem numsK_at : ∀ i : Fin 64, numsCubeRoots.getD i.val 0 = (((Sh.K.getD i.val 0).toNat : Nat) : Int) := by decide +kernel
theorem numsH_at : ∀ i : Fin 8, numsSquareRoots.getD i.val 0 = (((Sh.H0.getD i.val 0).toNat : Nat) : Int) := by decide +kernel
theorem tab_of {W : World} (h1 : Lib.TabIs Tryz.prog W "homecoming/sha.cubeRoots" .u32 numsCubeRoots) (h2 : Lib.TabIs Tryz.prog W "homecoming/sha.squareRoots" .u32 numsSquareRoots) : Tab W := by
  refine ⟨fun i hi => ?_, fun i hi => ?_⟩
  · show _ = some (Value.int .u32 (((Sh.K.getD i 0).toNat : Nat) : Int))
    rw [← numsK_at ⟨i, hi⟩]
    exact h1.cell gnCubeRoots i (by simpa [numsCubeRoots] using hi)
  · show _ = some (Value.int .u32 (((Sh.H0.getD i 0).toNat : Nat) : Int))
    rw [← numsH_at ⟨i, hi⟩]
    exact h2.cell gnSquareRoots i (by simpa [numsSquareRoots] using hi)
theorem cells_int : Tryz.prog.cellsOf 2 = 1 := by kernel_rfl
theorem cells_str : Tryz.prog.cellsOf 9 = 1 := by kernel_rfl
end Go.Proofs.YtfjdcopndkdbmaaGreatDoor
