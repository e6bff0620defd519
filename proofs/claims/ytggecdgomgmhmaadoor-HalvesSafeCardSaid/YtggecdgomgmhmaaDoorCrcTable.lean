/-
  What the rows' list of package-level variables gives the walks over package crc: the table halfBytes holds its sixteen numbers; and a world in which it does, for the witness. No condition.
-/
import Derived.Test.YtggecdgomgmhmaaDoorRows
import Derived.Test.YtggecdgomgmhmaaDoorLaw
import Derived.Test.YtggecdgomgmhmaaDoorCrcNext
import Derived.Deep.DeepHandedRow
import Derived.Lib.LaidTab
namespace Go.Proofs.YtggecdgomgmhmaaDoor
open Go.ChangeShapes Go.WideShapes Go.ChangeAt Go.RowKit

theorem own : ownKnob Tryd.prog.godebug = none := by kernel_rfl
theorem laidOut : laidOutB Tryd.prog = true := by kernel_rfl
theorem gTab : Tryd.prog.globalNamed "homecoming/crc.halfBytes" = some 0 := by kernel_rfl
theorem gTabType : (Tryd.prog.globals[0]?).map (·.type) = some 131 := by kernel_rfl
theorem cellsTab : Tryd.prog.cellsOf 131 = 16 := by kernel_rfl
theorem cellsU32 : Tryd.prog.cellsOf 112 = 1 := by kernel_rfl
theorem cellsInt : Tryd.prog.cellsOf 3 = 1 := by kernel_rfl
theorem cellsU8 : Tryd.prog.cellsOf 5 = 1 := by kernel_rfl

def nums : List Int := [0, 498536548, 997073096, 651767980, 1994146192, 1802195444, 1303535960, 1342533948, 3988292384, 4027552580, 3604390888, 3412177804, 2607071920, 2262029012, 2685067896, 3183342108]
theorem nums_tab : ∀ i : Fin 16, nums.getD i.val 0 = ((Crc.tab.getD i.val 0 : Nat) : Int) := by decide
def laidList : List (String × DataW Unit) := [("homecoming/crc.halfBytes", Rows.laid_homecoming_crc_halfBytes)]

/-- WHAT THE ROWS' LIST GIVES. -/
theorem tab_of_laid {W : World} (h : laidMetH Tryd.prog laidList W) : Tab W := by
  have ht : Lib.TabIs Tryd.prog W "homecoming/crc.halfBytes" .u32 nums :=
    Lib.tabIs_of_head (rest := []) gTab gTabType Tryd.underlying131 Tryd.underlying112 cellsU32 cellsTab h
  intro i hi
  rw [← nums_tab ⟨i, hi⟩]
  exact ht.cell gTab i (by simpa [nums] using hi)

/-- A WORLD FOR THE WITNESS: the settled one, the table holding what its initialiser lays. -/
noncomputable def laidWorld (os : Os) : World :=
  { World.holding Tryd.prog os ⟨#[], #[], []⟩ with heap := (World.holding Tryd.prog os ⟨#[], #[], []⟩).heap.modify 0 fun
      | .cells _ t frozen => .cells (nums.map (Value.int .u32)).toArray t frozen
      | o => o }

/-- An integer of 32 bits as a register. -/
theorem reg_of {x : Int} (h : (Lit.int .u32 x).wf = true) : ∃ a : BitVec 32, x = R a := by
  have hb := bounds_u32 h
  refine ⟨BitVec.ofNat 32 x.toNat, ?_⟩
  unfold R
  rw [BitVec.toNat_ofNat]
  omega
end Go.Proofs.YtggecdgomgmhmaaDoor
