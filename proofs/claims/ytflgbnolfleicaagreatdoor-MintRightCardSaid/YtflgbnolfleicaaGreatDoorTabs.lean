/-
  What a row's list of package-level variables gives, and one world in which all that the rows of this seat list is laid, for the witnesses. No condition.
-/
import Derived.Test.YtflgbnolfleicaaGreatDoorRows
import Derived.Test.YtflgbnolfleicaaGreatDoorBas
import Derived.Deep.DeepHandedRow
import Derived.Lib.LaidTab
import Derived.Stop.LaidErr
namespace Go.Proofs.YtflgbnolfleicaaGreatDoor
open Go.ChangeShapes Go.WideShapes Go.ChangeAt Go.RowKit

theorem own : ownKnob Tryz.prog.godebug = none := by kernel_rfl
theorem laidOut : laidOutB Tryz.prog = true := by kernel_rfl
def numsDeBruijn32tab : List Int := [0, 1, 28, 2, 29, 14, 24, 3, 30, 22, 20, 15, 25, 17, 4, 8, 31, 27, 13, 23, 21, 19, 16, 7, 26, 12, 18, 6, 11, 5, 10, 9]
theorem gnDeBruijn32tab : Tryz.prog.globalNamed "math/bits.deBruijn32tab" = some 4 := by kernel_rfl
theorem gtDeBruijn32tab : (Tryz.prog.globals[4]?).map (·.type) = some 154 := by kernel_rfl
theorem gcDeBruijn32tab : Tryz.prog.cellsOf 154 = 32 := by kernel_rfl
theorem ce_uint8 : Tryz.prog.cellsOf 5 = 1 := by kernel_rfl
theorem tab_DeBruijn32tab {rest : List (String × DataW Unit)} {W : World} (h : laidMet Tryz.prog (("math/bits.deBruijn32tab", Rows.laid_math_bits_deBruijn32tab) :: rest) W) : Lib.TabIs Tryz.prog W "math/bits.deBruijn32tab" .u8 numsDeBruijn32tab := Lib.tabIs_of_head gnDeBruijn32tab gtDeBruijn32tab Tryz.underlying154 Tryz.underlying5 ce_uint8 gcDeBruijn32tab h
def layDeBruijn32tab : Obj → Obj
  | .cells _ t frozen => .cells (numsDeBruijn32tab.map (Value.int .u8)).toArray t frozen
  | o => o
def numsDeBruijn64tab : List Int := [0, 1, 56, 2, 57, 49, 28, 3, 61, 58, 42, 50, 38, 29, 17, 4, 62, 47, 59, 36, 45, 43, 51, 22, 53, 39, 33, 30, 24, 18, 12, 5, 63, 55, 48, 27, 60, 41, 37, 16, 46, 35, 44, 21, 52, 32, 23, 11, 54, 26, 40, 15, 34, 20, 31, 10, 25, 14, 19, 9, 13, 8, 7, 6]
theorem gnDeBruijn64tab : Tryz.prog.globalNamed "math/bits.deBruijn64tab" = some 5 := by kernel_rfl
theorem gtDeBruijn64tab : (Tryz.prog.globals[5]?).map (·.type) = some 76 := by kernel_rfl
theorem gcDeBruijn64tab : Tryz.prog.cellsOf 76 = 64 := by kernel_rfl
theorem tab_DeBruijn64tab {rest : List (String × DataW Unit)} {W : World} (h : laidMet Tryz.prog (("math/bits.deBruijn64tab", Rows.laid_math_bits_deBruijn64tab) :: rest) W) : Lib.TabIs Tryz.prog W "math/bits.deBruijn64tab" .u8 numsDeBruijn64tab := Lib.tabIs_of_head gnDeBruijn64tab gtDeBruijn64tab Tryz.underlying76 Tryz.underlying5 ce_uint8 gcDeBruijn64tab h
def layDeBruijn64tab : Obj → Obj
  | .cells _ t frozen => .cells (numsDeBruijn64tab.map (Value.int .u8)).toArray t frozen
  | o => o
def numsUint64pow10 : List Int := [1, 10, 100, 1000, 10000, 100000, 1000000, 10000000, 100000000, 1000000000, 10000000000, 100000000000, 1000000000000, 10000000000000, 100000000000000, 1000000000000000, 10000000000000000, 100000000000000000, 1000000000000000000, 10000000000000000000]
theorem gnUint64pow10 : Tryz.prog.globalNamed "internal/strconv.uint64pow10" = some 2 := by kernel_rfl
theorem gtUint64pow10 : (Tryz.prog.globals[2]?).map (·.type) = some 147 := by kernel_rfl
theorem gcUint64pow10 : Tryz.prog.cellsOf 147 = 20 := by kernel_rfl
theorem ce_uint64 : Tryz.prog.cellsOf 81 = 1 := by kernel_rfl
theorem tab_Uint64pow10 {rest : List (String × DataW Unit)} {W : World} (h : laidMet Tryz.prog (("internal/strconv.uint64pow10", Rows.laid_internal_strconv_uint64pow10) :: rest) W) : Lib.TabIs Tryz.prog W "internal/strconv.uint64pow10" .u64 numsUint64pow10 := Lib.tabIs_of_head gnUint64pow10 gtUint64pow10 Tryz.underlying147 Tryz.underlying81 ce_uint64 gcUint64pow10 h
def layUint64pow10 : Obj → Obj
  | .cells _ t frozen => .cells (numsUint64pow10.map (Value.int .u64)).toArray t frozen
  | o => o
def numsAcceptRanges : List Int := [128, 191, 160, 191, 128, 159, 144, 191, 128, 143, 0, 0, 0, 0, 0, 0, 0, 0, 0, 0, 0, 0, 0, 0, 0, 0, 0, 0, 0, 0, 0, 0]
def layAcceptRanges : Obj → Obj
  | .cells _ t frozen => .cells (numsAcceptRanges.map (Value.int .u8)).toArray t frozen
  | o => o
def numsCubeRoots : List Int := [1116352408, 1899447441, 3049323471, 3921009573, 961987163, 1508970993, 2453635748, 2870763221, 3624381080, 310598401, 607225278, 1426881987, 1925078388, 2162078206, 2614888103, 3248222580, 3835390401, 4022224774, 264347078, 604807628, 770255983, 1249150122, 1555081692, 1996064986, 2554220882, 2821834349, 2952996808, 3210313671, 3336571891, 3584528711, 113926993, 338241895, 666307205, 773529912, 1294757372, 1396182291, 1695183700, 1986661051, 2177026350, 2456956037, 2730485921, 2820302411, 3259730800, 3345764771, 3516065817, 3600352804, 4094571909, 275423344, 430227734, 506948616, 659060556, 883997877, 958139571, 1322822218, 1537002063, 1747873779, 1955562222, 2024104815, 2227730452, 2361852424, 2428436474, 2756734187, 3204031479, 3329325298]
theorem gnCubeRoots : Tryz.prog.globalNamed "homecoming/sha.cubeRoots" = some 1 := by kernel_rfl
theorem gtCubeRoots : (Tryz.prog.globals[1]?).map (·.type) = some 93 := by kernel_rfl
theorem gcCubeRoots : Tryz.prog.cellsOf 93 = 64 := by kernel_rfl
theorem ce_uint32 : Tryz.prog.cellsOf 68 = 1 := by kernel_rfl
theorem tab_CubeRoots {rest : List (String × DataW Unit)} {W : World} (h : laidMet Tryz.prog (("homecoming/sha.cubeRoots", Rows.laid_homecoming_sha_cubeRoots) :: rest) W) : Lib.TabIs Tryz.prog W "homecoming/sha.cubeRoots" .u32 numsCubeRoots := Lib.tabIs_of_head gnCubeRoots gtCubeRoots Tryz.underlying93 Tryz.underlying68 ce_uint32 gcCubeRoots h
def layCubeRoots : Obj → Obj
  | .cells _ t frozen => .cells (numsCubeRoots.map (Value.int .u32)).toArray t frozen
  | o => o
def numsSquareRoots : List Int := [1779033703, 3144134277, 1013904242, 2773480762, 1359893119, 2600822924, 528734635, 1541459225]
theorem gnSquareRoots : Tryz.prog.globalNamed "homecoming/sha.squareRoots" = some 0 := by kernel_rfl
theorem gtSquareRoots : (Tryz.prog.globals[0]?).map (·.type) = some 69 := by kernel_rfl
theorem gcSquareRoots : Tryz.prog.cellsOf 69 = 8 := by kernel_rfl
theorem tab_SquareRoots {rest : List (String × DataW Unit)} {W : World} (h : laidMet Tryz.prog (("homecoming/sha.squareRoots", Rows.laid_homecoming_sha_squareRoots) :: rest) W) : Lib.TabIs Tryz.prog W "homecoming/sha.squareRoots" .u32 numsSquareRoots := Lib.tabIs_of_head gnSquareRoots gtSquareRoots Tryz.underlying69 Tryz.underlying68 ce_uint32 gcSquareRoots h
def laySquareRoots : Obj → Obj
  | .cells _ t frozen => .cells (numsSquareRoots.map (Value.int .u32)).toArray t frozen
  | o => o
def layFirst : Obj → Obj
  | .cells _ t frozen => .cells (Go.Pinned.utf8FirstZ.map fun n : Nat => Value.int .u8 (n : Int)).toArray t frozen
  | o => o
noncomputable def laidWorld (os : Os) : World :=
  { World.holding Tryz.prog os ⟨#[], #[], []⟩ with heap := ((((((((World.holding Tryz.prog os ⟨#[], #[], []⟩).heap.modify 4 layDeBruijn32tab).modify 5 layDeBruijn64tab).modify 2 layUint64pow10).modify 7 layAcceptRanges).modify 1 layCubeRoots).modify 0 laySquareRoots).modify 6 layFirst) }
end Go.Proofs.YtflgbnolfleicaaGreatDoor
