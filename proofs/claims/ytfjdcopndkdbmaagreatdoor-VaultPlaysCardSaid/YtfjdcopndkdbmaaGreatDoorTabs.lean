/-
  What a row's list of package-level variables gives, and one world in which all that the rows of this seat list is laid, for the witnesses. No condition.
-/
import Derived.Test.YtfjdcopndkdbmaaGreatDoorRows
import Derived.Test.YtfjdcopndkdbmaaGreatDoorBas
import Derived.Deep.DeepHandedRow
import Derived.Lib.LaidTab
import Derived.Stop.LaidErr
namespace Go.Proofs.YtfjdcopndkdbmaaGreatDoor
open Go.ChangeShapes Go.WideShapes Go.ChangeAt Go.RowKit

theorem own : ownKnob Tryz.prog.godebug = none := by kernel_rfl
theorem laidOut : laidOutB Tryz.prog = true := by kernel_rfl
def numsAcceptRanges : List Int := [128, 191, 160, 191, 128, 159, 144, 191, 128, 143, 0, 0, 0, 0, 0, 0, 0, 0, 0, 0, 0, 0, 0, 0, 0, 0, 0, 0, 0, 0, 0, 0]
def layAcceptRanges : Obj → Obj
  | .cells _ t frozen => .cells (numsAcceptRanges.map (Value.int .u8)).toArray t frozen
  | o => o
def numsCubeRoots : List Int := [1116352408, 1899447441, 3049323471, 3921009573, 961987163, 1508970993, 2453635748, 2870763221, 3624381080, 310598401, 607225278, 1426881987, 1925078388, 2162078206, 2614888103, 3248222580, 3835390401, 4022224774, 264347078, 604807628, 770255983, 1249150122, 1555081692, 1996064986, 2554220882, 2821834349, 2952996808, 3210313671, 3336571891, 3584528711, 113926993, 338241895, 666307205, 773529912, 1294757372, 1396182291, 1695183700, 1986661051, 2177026350, 2456956037, 2730485921, 2820302411, 3259730800, 3345764771, 3516065817, 3600352804, 4094571909, 275423344, 430227734, 506948616, 659060556, 883997877, 958139571, 1322822218, 1537002063, 1747873779, 1955562222, 2024104815, 2227730452, 2361852424, 2428436474, 2756734187, 3204031479, 3329325298]
theorem gnCubeRoots : Tryz.prog.globalNamed "homecoming/sha.cubeRoots" = some 1 := by kernel_rfl
theorem gtCubeRoots : (Tryz.prog.globals[1]?).map (·.type) = some 117 := by kernel_rfl
theorem gcCubeRoots : Tryz.prog.cellsOf 117 = 64 := by kernel_rfl
theorem ce_uint32 : Tryz.prog.cellsOf 115 = 1 := by kernel_rfl
theorem tab_CubeRoots {rest : List (String × DataW Unit)} {W : World} (h : laidMet Tryz.prog (("homecoming/sha.cubeRoots", Rows.laid_homecoming_sha_cubeRoots) :: rest) W) : Lib.TabIs Tryz.prog W "homecoming/sha.cubeRoots" .u32 numsCubeRoots := Lib.tabIs_of_head gnCubeRoots gtCubeRoots Tryz.underlying117 Tryz.underlying115 ce_uint32 gcCubeRoots h
def layCubeRoots : Obj → Obj
  | .cells _ t frozen => .cells (numsCubeRoots.map (Value.int .u32)).toArray t frozen
  | o => o
def numsSquareRoots : List Int := [1779033703, 3144134277, 1013904242, 2773480762, 1359893119, 2600822924, 528734635, 1541459225]
theorem gnSquareRoots : Tryz.prog.globalNamed "homecoming/sha.squareRoots" = some 0 := by kernel_rfl
theorem gtSquareRoots : (Tryz.prog.globals[0]?).map (·.type) = some 116 := by kernel_rfl
theorem gcSquareRoots : Tryz.prog.cellsOf 116 = 8 := by kernel_rfl
theorem tab_SquareRoots {rest : List (String × DataW Unit)} {W : World} (h : laidMet Tryz.prog (("homecoming/sha.squareRoots", Rows.laid_homecoming_sha_squareRoots) :: rest) W) : Lib.TabIs Tryz.prog W "homecoming/sha.squareRoots" .u32 numsSquareRoots := Lib.tabIs_of_head gnSquareRoots gtSquareRoots Tryz.underlying116 Tryz.underlying115 ce_uint32 gcSquareRoots h
def laySquareRoots : Obj → Obj
  | .cells _ t frozen => .cells (numsSquareRoots.map (Value.int .u32)).toArray t frozen
  | o => o
def layFirst : Obj → Obj
  | .cells _ t frozen => .cells (Go.Pinned.utf8FirstZ.map fun n : Nat => Value.int .u8 (n : Int)).toArray t frozen
  | o => o
noncomputable def laidWorld (os : Os) : World :=
  { World.holding Tryz.prog os ⟨#[], #[], []⟩ with heap := (((((World.holding Tryz.prog os ⟨#[], #[], []⟩).heap.modify 4 layAcceptRanges).modify 1 layCubeRoots).modify 0 laySquareRoots).modify 3 layFirst) }
end Go.Proofs.YtfjdcopndkdbmaaGreatDoor
