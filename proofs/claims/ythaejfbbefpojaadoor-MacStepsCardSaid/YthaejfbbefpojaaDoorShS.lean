/-
  What the rows' list of package-level variables gives the walks over package sha: its two tables hold their numbers; and a world in which they do, for the witness; the statements' helpers awake and short; two texts held against each other. No condition.
-/
import Derived.Test.YthaejfbbefpojaaDoorRows
import Derived.Test.YthaejfbbefpojaaDoorLaw
import Derived.Deep.DeepHandedRow
import Derived.Lib.LaidTab
import Derived.Stop.LaidErr
import Derived.Test.YthaejfbbefpojaaDoorShF
import Derived.Test.YthaejfbbefpojaaDoorShH
namespace Go.Proofs.YthaejfbbefpojaaDoor
open Go.ChangeShapes Go.WideShapes Go.ChangeAt Go.RowKit

theorem own : ownKnob Tryd.prog.godebug = none := by kernel_rfl
theorem laidOut : laidOutB Tryd.prog = true := by kernel_rfl
theorem gK : Tryd.prog.globalNamed "homecoming/sha.cubeRoots" = some 1 := by kernel_rfl
theorem gH : Tryd.prog.globalNamed "homecoming/sha.squareRoots" = some 0 := by kernel_rfl
theorem tK : (Tryd.prog.globals[1]?).map (·.type) = some 64 := by kernel_rfl
theorem tH : (Tryd.prog.globals[0]?).map (·.type) = some 51 := by kernel_rfl
theorem cK : Tryd.prog.cellsOf 64 = 64 := by kernel_rfl
theorem cH : Tryd.prog.cellsOf 51 = 8 := by kernel_rfl
theorem cU : Tryd.prog.cellsOf 50 = 1 := by kernel_rfl
theorem cellsStr : Tryd.prog.cellsOf 9 = 1 := by kernel_rfl

def numsK : List Int := [1116352408, 1899447441, 3049323471, 3921009573, 961987163, 1508970993, 2453635748, 2870763221, 3624381080, 310598401, 607225278, 1426881987, 1925078388, 2162078206, 2614888103, 3248222580, 3835390401, 4022224774, 264347078, 604807628, 770255983, 1249150122, 1555081692, 1996064986, 2554220882, 2821834349, 2952996808, 3210313671, 3336571891, 3584528711, 113926993, 338241895, 666307205, 773529912, 1294757372, 1396182291, 1695183700, 1986661051, 2177026350, 2456956037, 2730485921, 2820302411, 3259730800, 3345764771, 3516065817, 3600352804, 4094571909, 275423344, 430227734, 506948616, 659060556, 883997877, 958139571, 1322822218, 1537002063, 1747873779, 1955562222, 2024104815, 2227730452, 2361852424, 2428436474, 2756734187, 3204031479, 3329325298]
def numsH : List Int := [1779033703, 3144134277, 1013904242, 2773480762, 1359893119, 2600822924, 528734635, 1541459225]
theorem numsK_at : ∀ i : Fin 64, numsK.getD i.val 0 = (((Sh.K.getD i.val 0).toNat : Nat) : Int) := by decide +kernel
theorem numsH_at : ∀ i : Fin 8, numsH.getD i.val 0 = (((Sh.H0.getD i.val 0).toNat : Nat) : Int) := by decide +kernel
def laidList : List (String × DataW Unit) := [("homecoming/sha.cubeRoots", Rows.laid_homecoming_sha_cubeRoots), ("homecoming/sha.squareRoots", Rows.laid_homecoming_sha_squareRoots)]

/-- WHAT THE ROWS' LIST GIVES. -/
theorem tab_of_laid {W : World} (h : laidMetH Tryd.prog laidList W) : Tab W := by
  have h0 : laidMet Tryd.prog laidList W := h
  have h1 : Lib.TabIs Tryd.prog W "homecoming/sha.cubeRoots" .u32 numsK := Lib.tabIs_of_head (rest := [("homecoming/sha.squareRoots", Rows.laid_homecoming_sha_squareRoots)]) gK tK Tryd.underlying64 Tryd.underlying50 cU cK h0
  have h2 : Lib.TabIs Tryd.prog W "homecoming/sha.squareRoots" .u32 numsH := Lib.tabIs_of_head (rest := []) gH tH Tryd.underlying51 Tryd.underlying50 cU cH (laidMet.tail h0)
  refine ⟨fun i hi => ?_, fun i hi => ?_⟩
  · show _ = some (Value.int .u32 (((Sh.K.getD i 0).toNat : Nat) : Int))
    rw [← numsK_at ⟨i, hi⟩]
    exact h1.cell gK i (by simpa [numsK] using hi)
  · show _ = some (Value.int .u32 (((Sh.H0.getD i 0).toNat : Nat) : Int))
    rw [← numsH_at ⟨i, hi⟩]
    exact h2.cell gH i (by simpa [numsH] using hi)

def layK : Obj → Obj
  | .cells _ t frozen => .cells (numsK.map (Value.int .u32)).toArray t frozen
  | o => o
def layH : Obj → Obj
  | .cells _ t frozen => .cells (numsH.map (Value.int .u32)).toArray t frozen
  | o => o
noncomputable def laidWorld (os : Os) : World :=
  { World.holding Tryd.prog os ⟨#[], #[], []⟩ with heap := ((World.holding Tryd.prog os ⟨#[], #[], []⟩).heap.modify 1 layK).modify 0 layH }

/-- Parts that a slice literal lays. -/
theorem sum_new (l : List ByteArray) (hl : l.length ≤ 1000) (hs : len l ≤ 100000) (w : World) (hT : Tab w) :
    Calls Tryd.prog 16 #[.slice (some ⟨w.heap.size, 0, none⟩) l.length l.length] (w.alloc (.cells (cs l).toArray 9)) fun e w' => e = .returned (.string (ba (dig (tx l).flatten))) ∧ Below w.heap.size w w' := by
  have hb : Below w.heap.size w (w.alloc (.cells (cs l).toArray 9)) := (Below.refl _ w).alloc (Nat.le_refl _) _
  refine (sum_any l hl hs (some ⟨w.heap.size, 0, none⟩) l.length _ (fun i u hi => ?_) (hT.next hb)).mono fun e w' h => ⟨h.1, hb.trans (h.2.mono (by simp))⟩
  have hadd : (⟨w.heap.size, 0, none⟩ : Addr).add i = ⟨w.heap.size, i, none⟩ := by unfold Addr.add; split <;> simp_all
  exact ⟨_, rfl, by simp, fun h => h, by rw [hadd, (Blk.new w 9 (cs l).toArray).cell]; simpa using hi⟩

theorem awake_hex : ((ba (Sh.hex (dig [97, 98, 99]))).toList == ([98, 97, 55, 56, 49, 54, 98, 102, 56, 102, 48, 49, 99, 102, 101, 97, 52, 49, 52, 49, 52, 48, 100, 101, 53, 100, 97, 101, 50, 50, 50, 51, 98, 48, 48, 51, 54, 49, 97, 51, 57, 54, 49, 55, 55, 97, 57, 99, 98, 52, 49, 48, 102, 102, 54, 49, 102, 50, 48, 48, 49, 53, 97, 100] : List UInt8)) = true := by
  rw [ByteArray.toList_eq, ba_list, dig_eq, Sh.sum_abc]
  decide
/-- The chapter's example. -/
theorem awake_any (w : World) (ht : Tab w) :
    Calls Tryd.prog 14 #[] w fun e w' => e = .returned (.bool true) ∧ Below w.heap.size w w' := by
  go_enter Tryd.func14, Tryd.ntmps14
  go_wp2_with fail
  refine (sum_new [⟨#[97]⟩, ⟨#[98, 99]⟩] (by decide) (by decide) w ht).mono ?_
  rintro e w1 ⟨rfl, hb1⟩
  have hH := hex_any (ba (dig (tx [⟨#[97]⟩, ⟨#[98, 99]⟩]).flatten)) (by rw [ba_size, dig_length]; decide) w1
  rw [ba_list, show (tx [⟨#[97]⟩, ⟨#[98, 99]⟩]).flatten = [97, 98, 99] from rfl] at hH
  rw [show (tx [⟨#[97]⟩, ⟨#[98, 99]⟩]).flatten = [97, 98, 99] from rfl]
  have hx := awake_hex
  generalize ba (Sh.hex (dig [97, 98, 99])) = Z at hH hx
  have HH := Lib.hid hH
  have HB := Lib.hid hb1
  clear hH hb1
  go_wp2_with fail
  refine HH.out.mono ?_
  rintro e w2 ⟨rfl, hb2⟩
  have HB2 := Lib.hid (HB.out.trans (hb2.mono HB.out.size))
  clear hb2 HH
  go_wp2_with fail
  go_ret
  exact ⟨rfl, HB2.out⟩
end Go.Proofs.YthaejfbbefpojaaDoor
