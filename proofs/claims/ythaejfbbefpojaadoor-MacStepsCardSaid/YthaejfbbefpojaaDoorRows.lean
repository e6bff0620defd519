/-
  NARROWER THAN 'FOR EVERY INPUT', by the rows' own cells (each row's printed sentence says how): ShaTells: laid · ShaLengths: laid · ShaParts: laid · ShaMeters: laid · ShaHex: laid · ShaBlocks: laid · MacTells: laid · MacCounts: laid · MacEqual: laid · MacKeys: laid · MacSteps: laid.
  DERIVED. THE GIVEN ROWS OF THIS SEAT. 11 by the template 'for every input the law returns true; each argument reads behind the call as it read before'; 0 by the template 'total and deterministic' (their statements: YthaejfbbefpojaaDoorTotals.lean).
  GIVEN WITH THE SEED: the statements are not yours to turn. If you find one false, say at which input.
  Laid BY PROGRAM, IN A SANDBOX (cutbox-rows.mjs): the forced cells as the released guide's own fill.sh prints them over the translation 424893aaffc671b1… (all of the seat's roots in one cut). By AI agents, Wed Nov 11 2026. No macro, syntax, notation, axiom, sorry.
-/
import Derived.Test.YthaejfbbefpojaaDoorChecked
import GoSem.Claim
import GoSem.ClaimJoined
import GoSem.ClaimMapViews
import Derived.JoinedTies
import Derived.KernelRfl
namespace Go.Proofs.YthaejfbbefpojaaDoor
/- THE CELL 'sum', in the pinned program and in every row, IS THE sha256 OF THE DUMP (.gsa) THAT YthaejfbbefpojaaDoorProg.lean LOADS. Nothing in Lean hashes anything: it is a label: what it is worth is what the hold of that sum in a sandbox is worth. -/
noncomputable def Tryd.pinned : Pinned := { name := "ythaejfbbefpojaadoor", sum := "424893aaffc671b1b0b2bfef5c7b8a7192d9b65519bac81d4ea5fca0a1c4aeaa", checked := Tryd.checked }
namespace Rows
def none {H : Type} : Left H := { results := [], args := [] }

/- WHAT THE LISTED PACKAGE-LEVEL VARIABLES READ AS WHEN THE CALL BEGINS. Each datum BY PROGRAM (the guide's laid-datum.mjs) off the statement by which the dump's own 'gosem.cut.vars' lays the variable. In a bare row this is a premise. The card (YthaejfbbefpojaaDoorCards.lean) ties it to the program's text. -/
def laid_homecoming_sha_cubeRoots {H : Type} : DataW H := .agg [.lit (.int .u32 1116352408), .lit (.int .u32 1899447441), .lit (.int .u32 3049323471), .lit (.int .u32 3921009573), .lit (.int .u32 961987163), .lit (.int .u32 1508970993), .lit (.int .u32 2453635748), .lit (.int .u32 2870763221), .lit (.int .u32 3624381080), .lit (.int .u32 310598401), .lit (.int .u32 607225278), .lit (.int .u32 1426881987), .lit (.int .u32 1925078388), .lit (.int .u32 2162078206), .lit (.int .u32 2614888103), .lit (.int .u32 3248222580), .lit (.int .u32 3835390401), .lit (.int .u32 4022224774), .lit (.int .u32 264347078), .lit (.int .u32 604807628), .lit (.int .u32 770255983), .lit (.int .u32 1249150122), .lit (.int .u32 1555081692), .lit (.int .u32 1996064986), .lit (.int .u32 2554220882), .lit (.int .u32 2821834349), .lit (.int .u32 2952996808), .lit (.int .u32 3210313671), .lit (.int .u32 3336571891), .lit (.int .u32 3584528711), .lit (.int .u32 113926993), .lit (.int .u32 338241895), .lit (.int .u32 666307205), .lit (.int .u32 773529912), .lit (.int .u32 1294757372), .lit (.int .u32 1396182291), .lit (.int .u32 1695183700), .lit (.int .u32 1986661051), .lit (.int .u32 2177026350), .lit (.int .u32 2456956037), .lit (.int .u32 2730485921), .lit (.int .u32 2820302411), .lit (.int .u32 3259730800), .lit (.int .u32 3345764771), .lit (.int .u32 3516065817), .lit (.int .u32 3600352804), .lit (.int .u32 4094571909), .lit (.int .u32 275423344), .lit (.int .u32 430227734), .lit (.int .u32 506948616), .lit (.int .u32 659060556), .lit (.int .u32 883997877), .lit (.int .u32 958139571), .lit (.int .u32 1322822218), .lit (.int .u32 1537002063), .lit (.int .u32 1747873779), .lit (.int .u32 1955562222), .lit (.int .u32 2024104815), .lit (.int .u32 2227730452), .lit (.int .u32 2361852424), .lit (.int .u32 2428436474), .lit (.int .u32 2756734187), .lit (.int .u32 3204031479), .lit (.int .u32 3329325298)]
def laid_homecoming_sha_squareRoots {H : Type} : DataW H := .agg [.lit (.int .u32 1779033703), .lit (.int .u32 3144134277), .lit (.int .u32 1013904242), .lit (.int .u32 2773480762), .lit (.int .u32 1359893119), .lit (.int .u32 2600822924), .lit (.int .u32 528734635), .lit (.int .u32 1541459225)]

/-- 'homecominglaw06.ShaTells': WHATEVER THE INPUT: true; the input reads as it did. -/
def shaTellsSpec : ChangeSpec := { name := "shaTells", fn := fun _ => fun
  | [d1, d2] => { results := [.lit (.bool true)], args := [d1, d2] }
  | _ => none }
def shaTellsRow : OpenClaim := { program := "ythaejfbbefpojaadoor", sum := "424893aaffc671b1b0b2bfef5c7b8a7192d9b65519bac81d4ea5fca0a1c4aeaa", func := "homecoming/homecominglaw06.ShaTells", spec := "shaTells", inPlace := ["internal/abi.NoEscape", "internal/bytealg.MakeNoZero"], unfollowed := true, recurses := true, named := ["homecoming/sha.squareRoots", "homecoming/sha.cubeRoots"], apart := false, laid := [("homecoming/sha.cubeRoots", laid_homecoming_sha_cubeRoots), ("homecoming/sha.squareRoots", laid_homecoming_sha_squareRoots)] }
def ShaTellsSaid : Prop := shaTellsRow.holds Tryd.pinned (OpenSpec.ofChange shaTellsSpec)

/-- ITS FALSE NEIGHBOUR: 'it returns false'. Refute it at one input. -/
def shaTellsWrong : ChangeSpec := { name := "shaTells", fn := fun _ => fun
  | [d1, d2] => { results := [.lit (.bool false)], args := [d1, d2] }
  | _ => none }
def ShaTellsWrongFalsely : Prop := shaTellsRow.holds Tryd.pinned (OpenSpec.ofChange shaTellsWrong)

/-- 'homecominglaw06.ShaLengths': WHATEVER THE INPUT: true; the input reads as it did. -/
def shaLengthsSpec : ChangeSpec := { name := "shaLengths", fn := fun _ => fun
  | [d1, d2] => { results := [.lit (.bool true)], args := [d1, d2] }
  | _ => none }
def shaLengthsRow : OpenClaim := { program := "ythaejfbbefpojaadoor", sum := "424893aaffc671b1b0b2bfef5c7b8a7192d9b65519bac81d4ea5fca0a1c4aeaa", func := "homecoming/homecominglaw06.ShaLengths", spec := "shaLengths", inPlace := ["internal/abi.NoEscape", "internal/bytealg.MakeNoZero"], unfollowed := true, recurses := true, named := ["homecoming/sha.squareRoots", "homecoming/sha.cubeRoots"], apart := false, laid := [("homecoming/sha.cubeRoots", laid_homecoming_sha_cubeRoots), ("homecoming/sha.squareRoots", laid_homecoming_sha_squareRoots)] }
def ShaLengthsSaid : Prop := shaLengthsRow.holds Tryd.pinned (OpenSpec.ofChange shaLengthsSpec)

/-- ITS FALSE NEIGHBOUR: 'it returns false'. Refute it at one input. -/
def shaLengthsWrong : ChangeSpec := { name := "shaLengths", fn := fun _ => fun
  | [d1, d2] => { results := [.lit (.bool false)], args := [d1, d2] }
  | _ => none }
def ShaLengthsWrongFalsely : Prop := shaLengthsRow.holds Tryd.pinned (OpenSpec.ofChange shaLengthsWrong)

/-- 'homecominglaw06.ShaParts': WHATEVER THE INPUT: true; the input reads as it did. -/
def shaPartsSpec : ChangeSpec := { name := "shaParts", fn := fun _ => fun
  | [d1, d2, d3] => { results := [.lit (.bool true)], args := [d1, d2, d3] }
  | _ => none }
def shaPartsRow : OpenClaim := { program := "ythaejfbbefpojaadoor", sum := "424893aaffc671b1b0b2bfef5c7b8a7192d9b65519bac81d4ea5fca0a1c4aeaa", func := "homecoming/homecominglaw06.ShaParts", spec := "shaParts", inPlace := ["internal/abi.NoEscape", "internal/bytealg.MakeNoZero"], unfollowed := true, recurses := true, named := ["homecoming/sha.squareRoots", "homecoming/sha.cubeRoots"], apart := false, laid := [("homecoming/sha.cubeRoots", laid_homecoming_sha_cubeRoots), ("homecoming/sha.squareRoots", laid_homecoming_sha_squareRoots)] }
def ShaPartsSaid : Prop := shaPartsRow.holds Tryd.pinned (OpenSpec.ofChange shaPartsSpec)

/-- ITS FALSE NEIGHBOUR: 'it returns false'. Refute it at one input. -/
def shaPartsWrong : ChangeSpec := { name := "shaParts", fn := fun _ => fun
  | [d1, d2, d3] => { results := [.lit (.bool false)], args := [d1, d2, d3] }
  | _ => none }
def ShaPartsWrongFalsely : Prop := shaPartsRow.holds Tryd.pinned (OpenSpec.ofChange shaPartsWrong)

/-- 'homecominglaw06.ShaMeters': WHATEVER THE INPUT: true; the input reads as it did. -/
def shaMetersSpec : ChangeSpec := { name := "shaMeters", fn := fun _ => fun
  | [d] => { results := [.lit (.bool true)], args := [d] }
  | _ => none }
def shaMetersRow : OpenClaim := { program := "ythaejfbbefpojaadoor", sum := "424893aaffc671b1b0b2bfef5c7b8a7192d9b65519bac81d4ea5fca0a1c4aeaa", func := "homecoming/homecominglaw06.ShaMeters", spec := "shaMeters", inPlace := ["internal/abi.NoEscape", "internal/bytealg.MakeNoZero", "sync/atomic.AddInt64", "sync/atomic.LoadInt64"], unfollowed := true, recurses := true, named := ["homecoming/sha.squareRoots", "homecoming/sha.cubeRoots"], apart := false, laid := [("homecoming/sha.cubeRoots", laid_homecoming_sha_cubeRoots), ("homecoming/sha.squareRoots", laid_homecoming_sha_squareRoots)] }
def ShaMetersSaid : Prop := shaMetersRow.holds Tryd.pinned (OpenSpec.ofChange shaMetersSpec)

/-- ITS FALSE NEIGHBOUR: 'it returns false'. Refute it at one input. -/
def shaMetersWrong : ChangeSpec := { name := "shaMeters", fn := fun _ => fun
  | [d] => { results := [.lit (.bool false)], args := [d] }
  | _ => none }
def ShaMetersWrongFalsely : Prop := shaMetersRow.holds Tryd.pinned (OpenSpec.ofChange shaMetersWrong)

/-- 'homecominglaw06.ShaHex': WHATEVER THE INPUT: true; the input reads as it did. -/
def shaHexSpec : ChangeSpec := { name := "shaHex", fn := fun _ => fun
  | [d] => { results := [.lit (.bool true)], args := [d] }
  | _ => none }
def shaHexRow : OpenClaim := { program := "ythaejfbbefpojaadoor", sum := "424893aaffc671b1b0b2bfef5c7b8a7192d9b65519bac81d4ea5fca0a1c4aeaa", func := "homecoming/homecominglaw06.ShaHex", spec := "shaHex", inPlace := ["internal/abi.NoEscape", "internal/bytealg.MakeNoZero"], unfollowed := true, recurses := true, named := ["homecoming/sha.squareRoots", "homecoming/sha.cubeRoots"], apart := false, laid := [("homecoming/sha.cubeRoots", laid_homecoming_sha_cubeRoots), ("homecoming/sha.squareRoots", laid_homecoming_sha_squareRoots)] }
def ShaHexSaid : Prop := shaHexRow.holds Tryd.pinned (OpenSpec.ofChange shaHexSpec)

/-- ITS FALSE NEIGHBOUR: 'it returns false'. Refute it at one input. -/
def shaHexWrong : ChangeSpec := { name := "shaHex", fn := fun _ => fun
  | [d] => { results := [.lit (.bool false)], args := [d] }
  | _ => none }
def ShaHexWrongFalsely : Prop := shaHexRow.holds Tryd.pinned (OpenSpec.ofChange shaHexWrong)

/-- 'homecominglaw06.ShaBlocks': WHATEVER THE INPUT: true; the input reads as it did. -/
def shaBlocksSpec : ChangeSpec := { name := "shaBlocks", fn := fun _ => fun
  | [d1, d2, d3] => { results := [.lit (.bool true)], args := [d1, d2, d3] }
  | _ => none }
def shaBlocksRow : OpenClaim := { program := "ythaejfbbefpojaadoor", sum := "424893aaffc671b1b0b2bfef5c7b8a7192d9b65519bac81d4ea5fca0a1c4aeaa", func := "homecoming/homecominglaw06.ShaBlocks", spec := "shaBlocks", inPlace := ["internal/abi.NoEscape", "internal/bytealg.MakeNoZero"], unfollowed := true, recurses := true, named := ["homecoming/sha.squareRoots", "homecoming/sha.cubeRoots"], apart := false, laid := [("homecoming/sha.cubeRoots", laid_homecoming_sha_cubeRoots), ("homecoming/sha.squareRoots", laid_homecoming_sha_squareRoots)] }
def ShaBlocksSaid : Prop := shaBlocksRow.holds Tryd.pinned (OpenSpec.ofChange shaBlocksSpec)

/-- ITS FALSE NEIGHBOUR: 'it returns false'. Refute it at one input. -/
def shaBlocksWrong : ChangeSpec := { name := "shaBlocks", fn := fun _ => fun
  | [d1, d2, d3] => { results := [.lit (.bool false)], args := [d1, d2, d3] }
  | _ => none }
def ShaBlocksWrongFalsely : Prop := shaBlocksRow.holds Tryd.pinned (OpenSpec.ofChange shaBlocksWrong)

/-- 'homecominglaw07.MacTells': WHATEVER THE INPUT: true; the input reads as it did. -/
def macTellsSpec : ChangeSpec := { name := "macTells", fn := fun _ => fun
  | [d1, d2, d3] => { results := [.lit (.bool true)], args := [d1, d2, d3] }
  | _ => none }
def macTellsRow : OpenClaim := { program := "ythaejfbbefpojaadoor", sum := "424893aaffc671b1b0b2bfef5c7b8a7192d9b65519bac81d4ea5fca0a1c4aeaa", func := "homecoming/homecominglaw07.MacTells", spec := "macTells", inPlace := ["sync/atomic.AddInt64", "internal/abi.NoEscape", "internal/bytealg.MakeNoZero"], unfollowed := true, recurses := true, named := ["homecoming/sha.squareRoots", "homecoming/sha.cubeRoots"], apart := false, laid := [("homecoming/sha.cubeRoots", laid_homecoming_sha_cubeRoots), ("homecoming/sha.squareRoots", laid_homecoming_sha_squareRoots)] }
def MacTellsSaid : Prop := macTellsRow.holds Tryd.pinned (OpenSpec.ofChange macTellsSpec)

/-- ITS FALSE NEIGHBOUR: 'it returns false'. Refute it at one input. -/
def macTellsWrong : ChangeSpec := { name := "macTells", fn := fun _ => fun
  | [d1, d2, d3] => { results := [.lit (.bool false)], args := [d1, d2, d3] }
  | _ => none }
def MacTellsWrongFalsely : Prop := macTellsRow.holds Tryd.pinned (OpenSpec.ofChange macTellsWrong)

/-- 'homecominglaw07.MacCounts': WHATEVER THE INPUT: true; the input reads as it did. -/
def macCountsSpec : ChangeSpec := { name := "macCounts", fn := fun _ => fun
  | [d1, d2, d3] => { results := [.lit (.bool true)], args := [d1, d2, d3] }
  | _ => none }
def macCountsRow : OpenClaim := { program := "ythaejfbbefpojaadoor", sum := "424893aaffc671b1b0b2bfef5c7b8a7192d9b65519bac81d4ea5fca0a1c4aeaa", func := "homecoming/homecominglaw07.MacCounts", spec := "macCounts", inPlace := ["sync/atomic.AddInt64", "internal/abi.NoEscape", "internal/bytealg.MakeNoZero", "sync/atomic.LoadInt64"], unfollowed := true, recurses := true, named := ["homecoming/sha.squareRoots", "homecoming/sha.cubeRoots"], apart := false, laid := [("homecoming/sha.cubeRoots", laid_homecoming_sha_cubeRoots), ("homecoming/sha.squareRoots", laid_homecoming_sha_squareRoots)] }
def MacCountsSaid : Prop := macCountsRow.holds Tryd.pinned (OpenSpec.ofChange macCountsSpec)

/-- ITS FALSE NEIGHBOUR: 'it returns false'. Refute it at one input. -/
def macCountsWrong : ChangeSpec := { name := "macCounts", fn := fun _ => fun
  | [d1, d2, d3] => { results := [.lit (.bool false)], args := [d1, d2, d3] }
  | _ => none }
def MacCountsWrongFalsely : Prop := macCountsRow.holds Tryd.pinned (OpenSpec.ofChange macCountsWrong)

/-- 'homecominglaw07.MacEqual': WHATEVER THE INPUT: true; the input reads as it did. -/
def macEqualSpec : ChangeSpec := { name := "macEqual", fn := fun _ => fun
  | [d1, d2, d3] => { results := [.lit (.bool true)], args := [d1, d2, d3] }
  | _ => none }
def macEqualRow : OpenClaim := { program := "ythaejfbbefpojaadoor", sum := "424893aaffc671b1b0b2bfef5c7b8a7192d9b65519bac81d4ea5fca0a1c4aeaa", func := "homecoming/homecominglaw07.MacEqual", spec := "macEqual", inPlace := ["sync/atomic.AddInt64", "internal/abi.NoEscape", "internal/bytealg.MakeNoZero"], unfollowed := true, recurses := true, named := ["homecoming/sha.squareRoots", "homecoming/sha.cubeRoots"], apart := false, laid := [("homecoming/sha.cubeRoots", laid_homecoming_sha_cubeRoots), ("homecoming/sha.squareRoots", laid_homecoming_sha_squareRoots)] }
def MacEqualSaid : Prop := macEqualRow.holds Tryd.pinned (OpenSpec.ofChange macEqualSpec)

/-- ITS FALSE NEIGHBOUR: 'it returns false'. Refute it at one input. -/
def macEqualWrong : ChangeSpec := { name := "macEqual", fn := fun _ => fun
  | [d1, d2, d3] => { results := [.lit (.bool false)], args := [d1, d2, d3] }
  | _ => none }
def MacEqualWrongFalsely : Prop := macEqualRow.holds Tryd.pinned (OpenSpec.ofChange macEqualWrong)

/-- 'homecominglaw07.MacKeys': WHATEVER THE INPUT: true; the input reads as it did. -/
def macKeysSpec : ChangeSpec := { name := "macKeys", fn := fun _ => fun
  | [d1, d2] => { results := [.lit (.bool true)], args := [d1, d2] }
  | _ => none }
def macKeysRow : OpenClaim := { program := "ythaejfbbefpojaadoor", sum := "424893aaffc671b1b0b2bfef5c7b8a7192d9b65519bac81d4ea5fca0a1c4aeaa", func := "homecoming/homecominglaw07.MacKeys", spec := "macKeys", inPlace := ["sync/atomic.AddInt64", "internal/abi.NoEscape", "internal/bytealg.MakeNoZero"], unfollowed := true, recurses := true, named := ["homecoming/sha.squareRoots", "homecoming/sha.cubeRoots"], apart := false, laid := [("homecoming/sha.cubeRoots", laid_homecoming_sha_cubeRoots), ("homecoming/sha.squareRoots", laid_homecoming_sha_squareRoots)] }
def MacKeysSaid : Prop := macKeysRow.holds Tryd.pinned (OpenSpec.ofChange macKeysSpec)

/-- ITS FALSE NEIGHBOUR: 'it returns false'. Refute it at one input. -/
def macKeysWrong : ChangeSpec := { name := "macKeys", fn := fun _ => fun
  | [d1, d2] => { results := [.lit (.bool false)], args := [d1, d2] }
  | _ => none }
def MacKeysWrongFalsely : Prop := macKeysRow.holds Tryd.pinned (OpenSpec.ofChange macKeysWrong)

/-- 'homecominglaw07.MacSteps': WHATEVER THE INPUT: true; the input reads as it did. -/
def macStepsSpec : ChangeSpec := { name := "macSteps", fn := fun _ => fun
  | [d1, d2, d3] => { results := [.lit (.bool true)], args := [d1, d2, d3] }
  | _ => none }
def macStepsRow : OpenClaim := { program := "ythaejfbbefpojaadoor", sum := "424893aaffc671b1b0b2bfef5c7b8a7192d9b65519bac81d4ea5fca0a1c4aeaa", func := "homecoming/homecominglaw07.MacSteps", spec := "macSteps", inPlace := ["sync/atomic.AddInt64", "internal/abi.NoEscape", "internal/bytealg.MakeNoZero"], unfollowed := true, recurses := true, named := ["homecoming/sha.squareRoots", "homecoming/sha.cubeRoots"], apart := false, laid := [("homecoming/sha.cubeRoots", laid_homecoming_sha_cubeRoots), ("homecoming/sha.squareRoots", laid_homecoming_sha_squareRoots)] }
def MacStepsSaid : Prop := macStepsRow.holds Tryd.pinned (OpenSpec.ofChange macStepsSpec)

/-- ITS FALSE NEIGHBOUR: 'it returns false'. Refute it at one input. -/
def macStepsWrong : ChangeSpec := { name := "macSteps", fn := fun _ => fun
  | [d1, d2, d3] => { results := [.lit (.bool false)], args := [d1, d2, d3] }
  | _ => none }
def MacStepsWrongFalsely : Prop := macStepsRow.holds Tryd.pinned (OpenSpec.ofChange macStepsWrong)

/- THE SECOND FORM. 'bulk': how many values and letters a reading holds, each counted each time it is reached (what is shared counts as often as it is met; a slice's spare places count too). A statement '..UptoSaid' is the law's where the arguments, and the package variables that the reading takes, are together of bulk at most 1048576: NARROWER than '..Said'. Prove '..Said' where nothing that the law and all that it calls make is longer than what came in: it says more and counts as full. Else prove '..UptoSaid'. A law counts once. -/
mutual
def uptoBulk {H : Type} : DataW H → Nat
  | .lit (.string bytes) => bytes.length + 1
  | .lit _ => 1
  | .nil => 1
  | .ptr d => uptoBulk d + 1
  | .slice elems spare => uptoBulkAll elems + uptoBulkAll spare + 1
  | .agg parts => uptoBulkAll parts + 1
  | .iface _ d => uptoBulk d + 1
  | .map entries => uptoBulkEntries entries + 1
  | .held _ => 1
def uptoBulkAll {H : Type} : List (DataW H) → Nat
  | [] => 0
  | d :: r => uptoBulk d + uptoBulkAll r
def uptoBulkEntries {H : Type} : List (Lit × DataW H) → Nat
  | [] => 0
  | x :: r => uptoBulkEntry x + uptoBulkEntries r
def uptoBulkEntry {H : Type} : Lit × DataW H → Nat
  | (.string bytes, d) => bytes.length + uptoBulk d + 1
  | (_, d) => uptoBulk d + 1
 end
def uptoSmall : (H : Type) → List (DataW H) → Bool := fun _ ds => decide (uptoBulkAll ds ≤ 1048576)
def OpenSpec.upto (s : _root_.Go.ChangeSpec) : _root_.Go.OpenSpec := { _root_.Go.OpenSpec.ofChange s with cond := some uptoSmall }

/-- 'homecominglaw06.ShaTells', WHERE WHAT IT READS IS OF BULK AT MOST 1048576: true; the input reads as it did. -/
def shaTellsUptoRow : OpenClaim := { program := "ythaejfbbefpojaadoor", sum := "424893aaffc671b1b0b2bfef5c7b8a7192d9b65519bac81d4ea5fca0a1c4aeaa", func := "homecoming/homecominglaw06.ShaTells", spec := "shaTells", inPlace := ["internal/abi.NoEscape", "internal/bytealg.MakeNoZero"], unfollowed := true, recurses := true, named := ["homecoming/sha.squareRoots", "homecoming/sha.cubeRoots"], apart := false, laid := [("homecoming/sha.cubeRoots", laid_homecoming_sha_cubeRoots), ("homecoming/sha.squareRoots", laid_homecoming_sha_squareRoots)], narrowed := true }
def ShaTellsUptoSaid : Prop := shaTellsUptoRow.holds Tryd.pinned (OpenSpec.upto shaTellsSpec)

/-- 'homecominglaw06.ShaLengths', WHERE WHAT IT READS IS OF BULK AT MOST 1048576: true; the input reads as it did. -/
def shaLengthsUptoRow : OpenClaim := { program := "ythaejfbbefpojaadoor", sum := "424893aaffc671b1b0b2bfef5c7b8a7192d9b65519bac81d4ea5fca0a1c4aeaa", func := "homecoming/homecominglaw06.ShaLengths", spec := "shaLengths", inPlace := ["internal/abi.NoEscape", "internal/bytealg.MakeNoZero"], unfollowed := true, recurses := true, named := ["homecoming/sha.squareRoots", "homecoming/sha.cubeRoots"], apart := false, laid := [("homecoming/sha.cubeRoots", laid_homecoming_sha_cubeRoots), ("homecoming/sha.squareRoots", laid_homecoming_sha_squareRoots)], narrowed := true }
def ShaLengthsUptoSaid : Prop := shaLengthsUptoRow.holds Tryd.pinned (OpenSpec.upto shaLengthsSpec)

/-- 'homecominglaw06.ShaParts', WHERE WHAT IT READS IS OF BULK AT MOST 1048576: true; the input reads as it did. -/
def shaPartsUptoRow : OpenClaim := { program := "ythaejfbbefpojaadoor", sum := "424893aaffc671b1b0b2bfef5c7b8a7192d9b65519bac81d4ea5fca0a1c4aeaa", func := "homecoming/homecominglaw06.ShaParts", spec := "shaParts", inPlace := ["internal/abi.NoEscape", "internal/bytealg.MakeNoZero"], unfollowed := true, recurses := true, named := ["homecoming/sha.squareRoots", "homecoming/sha.cubeRoots"], apart := false, laid := [("homecoming/sha.cubeRoots", laid_homecoming_sha_cubeRoots), ("homecoming/sha.squareRoots", laid_homecoming_sha_squareRoots)], narrowed := true }
def ShaPartsUptoSaid : Prop := shaPartsUptoRow.holds Tryd.pinned (OpenSpec.upto shaPartsSpec)

/-- 'homecominglaw06.ShaMeters', WHERE WHAT IT READS IS OF BULK AT MOST 1048576: true; the input reads as it did. -/
def shaMetersUptoRow : OpenClaim := { program := "ythaejfbbefpojaadoor", sum := "424893aaffc671b1b0b2bfef5c7b8a7192d9b65519bac81d4ea5fca0a1c4aeaa", func := "homecoming/homecominglaw06.ShaMeters", spec := "shaMeters", inPlace := ["internal/abi.NoEscape", "internal/bytealg.MakeNoZero", "sync/atomic.AddInt64", "sync/atomic.LoadInt64"], unfollowed := true, recurses := true, named := ["homecoming/sha.squareRoots", "homecoming/sha.cubeRoots"], apart := false, laid := [("homecoming/sha.cubeRoots", laid_homecoming_sha_cubeRoots), ("homecoming/sha.squareRoots", laid_homecoming_sha_squareRoots)], narrowed := true }
def ShaMetersUptoSaid : Prop := shaMetersUptoRow.holds Tryd.pinned (OpenSpec.upto shaMetersSpec)

/-- 'homecominglaw06.ShaHex', WHERE WHAT IT READS IS OF BULK AT MOST 1048576: true; the input reads as it did. -/
def shaHexUptoRow : OpenClaim := { program := "ythaejfbbefpojaadoor", sum := "424893aaffc671b1b0b2bfef5c7b8a7192d9b65519bac81d4ea5fca0a1c4aeaa", func := "homecoming/homecominglaw06.ShaHex", spec := "shaHex", inPlace := ["internal/abi.NoEscape", "internal/bytealg.MakeNoZero"], unfollowed := true, recurses := true, named := ["homecoming/sha.squareRoots", "homecoming/sha.cubeRoots"], apart := false, laid := [("homecoming/sha.cubeRoots", laid_homecoming_sha_cubeRoots), ("homecoming/sha.squareRoots", laid_homecoming_sha_squareRoots)], narrowed := true }
def ShaHexUptoSaid : Prop := shaHexUptoRow.holds Tryd.pinned (OpenSpec.upto shaHexSpec)

/-- 'homecominglaw06.ShaBlocks', WHERE WHAT IT READS IS OF BULK AT MOST 1048576: true; the input reads as it did. -/
def shaBlocksUptoRow : OpenClaim := { program := "ythaejfbbefpojaadoor", sum := "424893aaffc671b1b0b2bfef5c7b8a7192d9b65519bac81d4ea5fca0a1c4aeaa", func := "homecoming/homecominglaw06.ShaBlocks", spec := "shaBlocks", inPlace := ["internal/abi.NoEscape", "internal/bytealg.MakeNoZero"], unfollowed := true, recurses := true, named := ["homecoming/sha.squareRoots", "homecoming/sha.cubeRoots"], apart := false, laid := [("homecoming/sha.cubeRoots", laid_homecoming_sha_cubeRoots), ("homecoming/sha.squareRoots", laid_homecoming_sha_squareRoots)], narrowed := true }
def ShaBlocksUptoSaid : Prop := shaBlocksUptoRow.holds Tryd.pinned (OpenSpec.upto shaBlocksSpec)

/-- 'homecominglaw07.MacTells', WHERE WHAT IT READS IS OF BULK AT MOST 1048576: true; the input reads as it did. -/
def macTellsUptoRow : OpenClaim := { program := "ythaejfbbefpojaadoor", sum := "424893aaffc671b1b0b2bfef5c7b8a7192d9b65519bac81d4ea5fca0a1c4aeaa", func := "homecoming/homecominglaw07.MacTells", spec := "macTells", inPlace := ["sync/atomic.AddInt64", "internal/abi.NoEscape", "internal/bytealg.MakeNoZero"], unfollowed := true, recurses := true, named := ["homecoming/sha.squareRoots", "homecoming/sha.cubeRoots"], apart := false, laid := [("homecoming/sha.cubeRoots", laid_homecoming_sha_cubeRoots), ("homecoming/sha.squareRoots", laid_homecoming_sha_squareRoots)], narrowed := true }
def MacTellsUptoSaid : Prop := macTellsUptoRow.holds Tryd.pinned (OpenSpec.upto macTellsSpec)

/-- 'homecominglaw07.MacCounts', WHERE WHAT IT READS IS OF BULK AT MOST 1048576: true; the input reads as it did. -/
def macCountsUptoRow : OpenClaim := { program := "ythaejfbbefpojaadoor", sum := "424893aaffc671b1b0b2bfef5c7b8a7192d9b65519bac81d4ea5fca0a1c4aeaa", func := "homecoming/homecominglaw07.MacCounts", spec := "macCounts", inPlace := ["sync/atomic.AddInt64", "internal/abi.NoEscape", "internal/bytealg.MakeNoZero", "sync/atomic.LoadInt64"], unfollowed := true, recurses := true, named := ["homecoming/sha.squareRoots", "homecoming/sha.cubeRoots"], apart := false, laid := [("homecoming/sha.cubeRoots", laid_homecoming_sha_cubeRoots), ("homecoming/sha.squareRoots", laid_homecoming_sha_squareRoots)], narrowed := true }
def MacCountsUptoSaid : Prop := macCountsUptoRow.holds Tryd.pinned (OpenSpec.upto macCountsSpec)

/-- 'homecominglaw07.MacEqual', WHERE WHAT IT READS IS OF BULK AT MOST 1048576: true; the input reads as it did. -/
def macEqualUptoRow : OpenClaim := { program := "ythaejfbbefpojaadoor", sum := "424893aaffc671b1b0b2bfef5c7b8a7192d9b65519bac81d4ea5fca0a1c4aeaa", func := "homecoming/homecominglaw07.MacEqual", spec := "macEqual", inPlace := ["sync/atomic.AddInt64", "internal/abi.NoEscape", "internal/bytealg.MakeNoZero"], unfollowed := true, recurses := true, named := ["homecoming/sha.squareRoots", "homecoming/sha.cubeRoots"], apart := false, laid := [("homecoming/sha.cubeRoots", laid_homecoming_sha_cubeRoots), ("homecoming/sha.squareRoots", laid_homecoming_sha_squareRoots)], narrowed := true }
def MacEqualUptoSaid : Prop := macEqualUptoRow.holds Tryd.pinned (OpenSpec.upto macEqualSpec)

/-- 'homecominglaw07.MacKeys', WHERE WHAT IT READS IS OF BULK AT MOST 1048576: true; the input reads as it did. -/
def macKeysUptoRow : OpenClaim := { program := "ythaejfbbefpojaadoor", sum := "424893aaffc671b1b0b2bfef5c7b8a7192d9b65519bac81d4ea5fca0a1c4aeaa", func := "homecoming/homecominglaw07.MacKeys", spec := "macKeys", inPlace := ["sync/atomic.AddInt64", "internal/abi.NoEscape", "internal/bytealg.MakeNoZero"], unfollowed := true, recurses := true, named := ["homecoming/sha.squareRoots", "homecoming/sha.cubeRoots"], apart := false, laid := [("homecoming/sha.cubeRoots", laid_homecoming_sha_cubeRoots), ("homecoming/sha.squareRoots", laid_homecoming_sha_squareRoots)], narrowed := true }
def MacKeysUptoSaid : Prop := macKeysUptoRow.holds Tryd.pinned (OpenSpec.upto macKeysSpec)

/-- 'homecominglaw07.MacSteps', WHERE WHAT IT READS IS OF BULK AT MOST 1048576: true; the input reads as it did. -/
def macStepsUptoRow : OpenClaim := { program := "ythaejfbbefpojaadoor", sum := "424893aaffc671b1b0b2bfef5c7b8a7192d9b65519bac81d4ea5fca0a1c4aeaa", func := "homecoming/homecominglaw07.MacSteps", spec := "macSteps", inPlace := ["sync/atomic.AddInt64", "internal/abi.NoEscape", "internal/bytealg.MakeNoZero"], unfollowed := true, recurses := true, named := ["homecoming/sha.squareRoots", "homecoming/sha.cubeRoots"], apart := false, laid := [("homecoming/sha.cubeRoots", laid_homecoming_sha_cubeRoots), ("homecoming/sha.squareRoots", laid_homecoming_sha_squareRoots)], narrowed := true }
def MacStepsUptoSaid : Prop := macStepsUptoRow.holds Tryd.pinned (OpenSpec.upto macStepsSpec)

end Rows
end Go.Proofs.YthaejfbbefpojaaDoor
