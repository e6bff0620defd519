/-
  NARROWER THAN 'FOR EVERY INPUT', by the rows' own cells (each row's printed sentence says how): FrameTells: laid · FrameBack: laid · FrameTorn: laid · FrameGone: laid · FrameSizes: laid · FrameParts: laid.
  DERIVED. THE GIVEN ROWS OF THIS SEAT. 6 by the template 'for every input the law returns true; each argument reads behind the call as it read before'; 0 by the template 'total and deterministic' (their statements: YtgbopohbhnpceaaDoorTotals.lean).
  GIVEN WITH THE SEED: the statements are not yours to turn. If you find one false, say at which input.
  Laid BY PROGRAM, IN A SANDBOX (cutbox-rows.mjs): the forced cells as the released guide's own fill.sh prints them over the translation ee53fe32f63ea431… (all of the seat's roots in one cut). By AI agents, Wed Nov 11 2026. No macro, syntax, notation, axiom, sorry.
-/
import Derived.Test.YtgbopohbhnpceaaDoorChecked
import GoSem.Claim
import GoSem.ClaimJoined
import GoSem.ClaimMapViews
import Derived.JoinedTies
import Derived.KernelRfl
namespace Go.Proofs.YtgbopohbhnpceaaDoor
/- THE CELL 'sum', in the pinned program and in every row, IS THE sha256 OF THE DUMP (.gsa) THAT YtgbopohbhnpceaaDoorProg.lean LOADS. Nothing in Lean hashes anything: it is a label: what it is worth is what the hold of that sum in a sandbox is worth. -/
noncomputable def Tryd.pinned : Pinned := { name := "ytgbopohbhnpceaadoor", sum := "ee53fe32f63ea431dc2c6f6a5cf73bfd05fb38062a524745917865cbf8d429f1", checked := Tryd.checked }
namespace Rows
def none {H : Type} : Left H := { results := [], args := [] }

/- WHAT THE LISTED PACKAGE-LEVEL VARIABLES READ AS WHEN THE CALL BEGINS. Each datum BY PROGRAM (the guide's laid-datum.mjs) off the statement by which the dump's own 'gosem.cut.vars' lays the variable. In a bare row this is a premise. The card (YtgbopohbhnpceaaDoorCards.lean) ties it to the program's text. -/
def laid_homecoming_crc_halfBytes {H : Type} : DataW H := .agg [.lit (.int .u32 0), .lit (.int .u32 498536548), .lit (.int .u32 997073096), .lit (.int .u32 651767980), .lit (.int .u32 1994146192), .lit (.int .u32 1802195444), .lit (.int .u32 1303535960), .lit (.int .u32 1342533948), .lit (.int .u32 3988292384), .lit (.int .u32 4027552580), .lit (.int .u32 3604390888), .lit (.int .u32 3412177804), .lit (.int .u32 2607071920), .lit (.int .u32 2262029012), .lit (.int .u32 2685067896), .lit (.int .u32 3183342108)]

/-- 'homecominglaw04.FrameTells': WHATEVER THE INPUT: true; the input reads as it did. -/
def frameTellsSpec : ChangeSpec := { name := "frameTells", fn := fun _ => fun
  | [d1, d2, d3] => { results := [.lit (.bool true)], args := [d1, d2, d3] }
  | _ => none }
def frameTellsRow : OpenClaim := { program := "ytgbopohbhnpceaadoor", sum := "ee53fe32f63ea431dc2c6f6a5cf73bfd05fb38062a524745917865cbf8d429f1", func := "homecoming/homecominglaw04.FrameTells", spec := "frameTells", inPlace := ["internal/abi.NoEscape"], unfollowed := true, recurses := true, named := ["homecoming/crc.halfBytes"], apart := false, laid := [("homecoming/crc.halfBytes", laid_homecoming_crc_halfBytes)] }
def FrameTellsSaid : Prop := frameTellsRow.holds Tryd.pinned (OpenSpec.ofChange frameTellsSpec)

/-- ITS FALSE NEIGHBOUR: 'it returns false'. Refute it at one input. -/
def frameTellsWrong : ChangeSpec := { name := "frameTells", fn := fun _ => fun
  | [d1, d2, d3] => { results := [.lit (.bool false)], args := [d1, d2, d3] }
  | _ => none }
def FrameTellsWrongFalsely : Prop := frameTellsRow.holds Tryd.pinned (OpenSpec.ofChange frameTellsWrong)

/-- 'homecominglaw04.FrameBack': WHATEVER THE INPUT: true; the input reads as it did. -/
def frameBackSpec : ChangeSpec := { name := "frameBack", fn := fun _ => fun
  | [d1, d2] => { results := [.lit (.bool true)], args := [d1, d2] }
  | _ => none }
def frameBackRow : OpenClaim := { program := "ytgbopohbhnpceaadoor", sum := "ee53fe32f63ea431dc2c6f6a5cf73bfd05fb38062a524745917865cbf8d429f1", func := "homecoming/homecominglaw04.FrameBack", spec := "frameBack", inPlace := ["internal/abi.NoEscape"], unfollowed := true, recurses := true, named := ["homecoming/crc.halfBytes"], apart := false, laid := [("homecoming/crc.halfBytes", laid_homecoming_crc_halfBytes)] }
def FrameBackSaid : Prop := frameBackRow.holds Tryd.pinned (OpenSpec.ofChange frameBackSpec)

/-- ITS FALSE NEIGHBOUR: 'it returns false'. Refute it at one input. -/
def frameBackWrong : ChangeSpec := { name := "frameBack", fn := fun _ => fun
  | [d1, d2] => { results := [.lit (.bool false)], args := [d1, d2] }
  | _ => none }
def FrameBackWrongFalsely : Prop := frameBackRow.holds Tryd.pinned (OpenSpec.ofChange frameBackWrong)

/-- 'homecominglaw04.FrameTorn': WHATEVER THE INPUT: true; the input reads as it did. -/
def frameTornSpec : ChangeSpec := { name := "frameTorn", fn := fun _ => fun
  | [d1, d2, d3] => { results := [.lit (.bool true)], args := [d1, d2, d3] }
  | _ => none }
def frameTornRow : OpenClaim := { program := "ytgbopohbhnpceaadoor", sum := "ee53fe32f63ea431dc2c6f6a5cf73bfd05fb38062a524745917865cbf8d429f1", func := "homecoming/homecominglaw04.FrameTorn", spec := "frameTorn", inPlace := ["internal/abi.NoEscape"], unfollowed := true, recurses := true, named := ["homecoming/crc.halfBytes"], apart := false, laid := [("homecoming/crc.halfBytes", laid_homecoming_crc_halfBytes)] }
def FrameTornSaid : Prop := frameTornRow.holds Tryd.pinned (OpenSpec.ofChange frameTornSpec)

/-- ITS FALSE NEIGHBOUR: 'it returns false'. Refute it at one input. -/
def frameTornWrong : ChangeSpec := { name := "frameTorn", fn := fun _ => fun
  | [d1, d2, d3] => { results := [.lit (.bool false)], args := [d1, d2, d3] }
  | _ => none }
def FrameTornWrongFalsely : Prop := frameTornRow.holds Tryd.pinned (OpenSpec.ofChange frameTornWrong)

/-- 'homecominglaw04.FrameGone': WHATEVER THE INPUT: true; the input reads as it did. -/
def frameGoneSpec : ChangeSpec := { name := "frameGone", fn := fun _ => fun
  | [d1, d2] => { results := [.lit (.bool true)], args := [d1, d2] }
  | _ => none }
def frameGoneRow : OpenClaim := { program := "ytgbopohbhnpceaadoor", sum := "ee53fe32f63ea431dc2c6f6a5cf73bfd05fb38062a524745917865cbf8d429f1", func := "homecoming/homecominglaw04.FrameGone", spec := "frameGone", unfollowed := true, recurses := true, named := ["homecoming/crc.halfBytes"], apart := false, laid := [("homecoming/crc.halfBytes", laid_homecoming_crc_halfBytes)] }
def FrameGoneSaid : Prop := frameGoneRow.holds Tryd.pinned (OpenSpec.ofChange frameGoneSpec)

/-- ITS FALSE NEIGHBOUR: 'it returns false'. Refute it at one input. -/
def frameGoneWrong : ChangeSpec := { name := "frameGone", fn := fun _ => fun
  | [d1, d2] => { results := [.lit (.bool false)], args := [d1, d2] }
  | _ => none }
def FrameGoneWrongFalsely : Prop := frameGoneRow.holds Tryd.pinned (OpenSpec.ofChange frameGoneWrong)

/-- 'homecominglaw04.FrameSizes': WHATEVER THE INPUT: true; the input reads as it did. -/
def frameSizesSpec : ChangeSpec := { name := "frameSizes", fn := fun _ => fun
  | [d] => { results := [.lit (.bool true)], args := [d] }
  | _ => none }
def frameSizesRow : OpenClaim := { program := "ytgbopohbhnpceaadoor", sum := "ee53fe32f63ea431dc2c6f6a5cf73bfd05fb38062a524745917865cbf8d429f1", func := "homecoming/homecominglaw04.FrameSizes", spec := "frameSizes", unfollowed := true, recurses := true, named := ["homecoming/crc.halfBytes"], apart := false, laid := [("homecoming/crc.halfBytes", laid_homecoming_crc_halfBytes)] }
def FrameSizesSaid : Prop := frameSizesRow.holds Tryd.pinned (OpenSpec.ofChange frameSizesSpec)

/-- ITS FALSE NEIGHBOUR: 'it returns false'. Refute it at one input. -/
def frameSizesWrong : ChangeSpec := { name := "frameSizes", fn := fun _ => fun
  | [d] => { results := [.lit (.bool false)], args := [d] }
  | _ => none }
def FrameSizesWrongFalsely : Prop := frameSizesRow.holds Tryd.pinned (OpenSpec.ofChange frameSizesWrong)

/-- 'homecominglaw04.FrameParts': WHATEVER THE INPUT: true; the input reads as it did. -/
def framePartsSpec : ChangeSpec := { name := "frameParts", fn := fun _ => fun
  | [d1, d2] => { results := [.lit (.bool true)], args := [d1, d2] }
  | _ => none }
def framePartsRow : OpenClaim := { program := "ytgbopohbhnpceaadoor", sum := "ee53fe32f63ea431dc2c6f6a5cf73bfd05fb38062a524745917865cbf8d429f1", func := "homecoming/homecominglaw04.FrameParts", spec := "frameParts", inPlace := ["internal/abi.NoEscape"], unfollowed := true, recurses := true, named := ["homecoming/crc.halfBytes"], apart := false, laid := [("homecoming/crc.halfBytes", laid_homecoming_crc_halfBytes)] }
def FramePartsSaid : Prop := framePartsRow.holds Tryd.pinned (OpenSpec.ofChange framePartsSpec)

/-- ITS FALSE NEIGHBOUR: 'it returns false'. Refute it at one input. -/
def framePartsWrong : ChangeSpec := { name := "frameParts", fn := fun _ => fun
  | [d1, d2] => { results := [.lit (.bool false)], args := [d1, d2] }
  | _ => none }
def FramePartsWrongFalsely : Prop := framePartsRow.holds Tryd.pinned (OpenSpec.ofChange framePartsWrong)

/- THE SECOND FORM. 'bulk': how many values and letters a reading holds, each counted each time it is reached (what is shared counts as often as it is met; a slice's spare places count too). A statement '..UptoSaid' is the law's where the arguments, and the package variables that the reading takes, are together of bulk at most 1048576: NARROWER than '..Said'. Prove '..Said' where nothing that the law and all that it calls make is longer than what came in: it says more and counts as full. Else prove '..UptoSaid'. A law counts once. -/
mutual
def uptoBulk {H : Type} : DataW H → Nat
  | .lit (.string bytes) => bytes.length + 1
  | .lit _ => 1
  | .nil => 1
  | .ptr d => uptoBulk d + 1
  | .slice elems spare => uptoBulkAll elems + uptoBulkAll spare + 1
  | .agg parts => uptoBulkAll parts + 1
  | .iface _ d => uptoBulk d + 1
  | .map entries => uptoBulkEntries entries + 1
  | .held _ => 1
def uptoBulkAll {H : Type} : List (DataW H) → Nat
  | [] => 0
  | d :: r => uptoBulk d + uptoBulkAll r
def uptoBulkEntries {H : Type} : List (Lit × DataW H) → Nat
  | [] => 0
  | x :: r => uptoBulkEntry x + uptoBulkEntries r
def uptoBulkEntry {H : Type} : Lit × DataW H → Nat
  | (.string bytes, d) => bytes.length + uptoBulk d + 1
  | (_, d) => uptoBulk d + 1
 end
def uptoSmall : (H : Type) → List (DataW H) → Bool := fun _ ds => decide (uptoBulkAll ds ≤ 1048576)
def OpenSpec.upto (s : _root_.Go.ChangeSpec) : _root_.Go.OpenSpec := { _root_.Go.OpenSpec.ofChange s with cond := some uptoSmall }

/-- 'homecominglaw04.FrameTells', WHERE WHAT IT READS IS OF BULK AT MOST 1048576: true; the input reads as it did. -/
def frameTellsUptoRow : OpenClaim := { program := "ytgbopohbhnpceaadoor", sum := "ee53fe32f63ea431dc2c6f6a5cf73bfd05fb38062a524745917865cbf8d429f1", func := "homecoming/homecominglaw04.FrameTells", spec := "frameTells", inPlace := ["internal/abi.NoEscape"], unfollowed := true, recurses := true, named := ["homecoming/crc.halfBytes"], apart := false, laid := [("homecoming/crc.halfBytes", laid_homecoming_crc_halfBytes)], narrowed := true }
def FrameTellsUptoSaid : Prop := frameTellsUptoRow.holds Tryd.pinned (OpenSpec.upto frameTellsSpec)

/-- 'homecominglaw04.FrameBack', WHERE WHAT IT READS IS OF BULK AT MOST 1048576: true; the input reads as it did. -/
def frameBackUptoRow : OpenClaim := { program := "ytgbopohbhnpceaadoor", sum := "ee53fe32f63ea431dc2c6f6a5cf73bfd05fb38062a524745917865cbf8d429f1", func := "homecoming/homecominglaw04.FrameBack", spec := "frameBack", inPlace := ["internal/abi.NoEscape"], unfollowed := true, recurses := true, named := ["homecoming/crc.halfBytes"], apart := false, laid := [("homecoming/crc.halfBytes", laid_homecoming_crc_halfBytes)], narrowed := true }
def FrameBackUptoSaid : Prop := frameBackUptoRow.holds Tryd.pinned (OpenSpec.upto frameBackSpec)

/-- 'homecominglaw04.FrameTorn', WHERE WHAT IT READS IS OF BULK AT MOST 1048576: true; the input reads as it did. -/
def frameTornUptoRow : OpenClaim := { program := "ytgbopohbhnpceaadoor", sum := "ee53fe32f63ea431dc2c6f6a5cf73bfd05fb38062a524745917865cbf8d429f1", func := "homecoming/homecominglaw04.FrameTorn", spec := "frameTorn", inPlace := ["internal/abi.NoEscape"], unfollowed := true, recurses := true, named := ["homecoming/crc.halfBytes"], apart := false, laid := [("homecoming/crc.halfBytes", laid_homecoming_crc_halfBytes)], narrowed := true }
def FrameTornUptoSaid : Prop := frameTornUptoRow.holds Tryd.pinned (OpenSpec.upto frameTornSpec)

/-- 'homecominglaw04.FrameGone', WHERE WHAT IT READS IS OF BULK AT MOST 1048576: true; the input reads as it did. -/
def frameGoneUptoRow : OpenClaim := { program := "ytgbopohbhnpceaadoor", sum := "ee53fe32f63ea431dc2c6f6a5cf73bfd05fb38062a524745917865cbf8d429f1", func := "homecoming/homecominglaw04.FrameGone", spec := "frameGone", unfollowed := true, recurses := true, named := ["homecoming/crc.halfBytes"], apart := false, laid := [("homecoming/crc.halfBytes", laid_homecoming_crc_halfBytes)], narrowed := true }
def FrameGoneUptoSaid : Prop := frameGoneUptoRow.holds Tryd.pinned (OpenSpec.upto frameGoneSpec)

/-- 'homecominglaw04.FrameSizes', WHERE WHAT IT READS IS OF BULK AT MOST 1048576: true; the input reads as it did. -/
def frameSizesUptoRow : OpenClaim := { program := "ytgbopohbhnpceaadoor", sum := "ee53fe32f63ea431dc2c6f6a5cf73bfd05fb38062a524745917865cbf8d429f1", func := "homecoming/homecominglaw04.FrameSizes", spec := "frameSizes", unfollowed := true, recurses := true, named := ["homecoming/crc.halfBytes"], apart := false, laid := [("homecoming/crc.halfBytes", laid_homecoming_crc_halfBytes)], narrowed := true }
def FrameSizesUptoSaid : Prop := frameSizesUptoRow.holds Tryd.pinned (OpenSpec.upto frameSizesSpec)

/-- 'homecominglaw04.FrameParts', WHERE WHAT IT READS IS OF BULK AT MOST 1048576: true; the input reads as it did. -/
def framePartsUptoRow : OpenClaim := { program := "ytgbopohbhnpceaadoor", sum := "ee53fe32f63ea431dc2c6f6a5cf73bfd05fb38062a524745917865cbf8d429f1", func := "homecoming/homecominglaw04.FrameParts", spec := "frameParts", inPlace := ["internal/abi.NoEscape"], unfollowed := true, recurses := true, named := ["homecoming/crc.halfBytes"], apart := false, laid := [("homecoming/crc.halfBytes", laid_homecoming_crc_halfBytes)], narrowed := true }
def FramePartsUptoSaid : Prop := framePartsUptoRow.holds Tryd.pinned (OpenSpec.upto framePartsSpec)

end Rows
end Go.Proofs.YtgbopohbhnpceaaDoor
