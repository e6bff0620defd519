/-
  No cell of these rows narrows 'for every input' (looked for: loops, veiled, ifaces, maps, wideKeys, modest, calm, conditions, laid).
  DERIVED. THE GIVEN ROWS OF THIS SEAT. 5 by the template 'for every input the law returns true; each argument reads behind the call as it read before'; 0 by the template 'total and deterministic' (their statements: YtdkiainmjdcfmaaTotals.lean).
  GIVEN WITH THE SEED: the statements are not yours to turn. If you find one false, say at which input.
  Laid BY PROGRAM, IN A SANDBOX (cutbox-rows.mjs): the forced cells as the released guide's own fill.sh prints them over the translation 5ac0b208a507c995… (all of the seat's roots in one cut). By AI agents, Wed Nov 11 2026. No macro, syntax, notation, axiom, sorry.
-/
import Derived.Test.YtdkiainmjdcfmaaChecked
import GoSem.Claim
import GoSem.ClaimJoined
import GoSem.ClaimMapViews
import Derived.JoinedTies
import Derived.KernelRfl
namespace Go.Proofs.Ytdkiainmjdcfmaa
/- THE CELL 'sum', in the pinned program and in every row, IS THE sha256 OF THE DUMP (.gsa) THAT YtdkiainmjdcfmaaProg.lean LOADS. Nothing in Lean hashes anything: it is a label: what it is worth is what the hold of that sum in a sandbox is worth. -/
noncomputable def Try.pinned : Pinned := { name := "ytdkiainmjdcfmaa", sum := "5ac0b208a507c995d50123c7eb9fd3d21bf669750c04bb1daf5ed4cfe8a76741", checked := Try.checked }
namespace Rows
def none {H : Type} : Left H := { results := [], args := [] }

/-- 'homecominglaw13.RetryTells': WHATEVER THE INPUT: true; the input reads as it did. -/
def retryTellsSpec : ChangeSpec := { name := "retryTells", fn := fun _ => fun
  | [d1, d2, d3] => { results := [.lit (.bool true)], args := [d1, d2, d3] }
  | _ => none }
def retryTellsRow : OpenClaim := { program := "ytdkiainmjdcfmaa", sum := "5ac0b208a507c995d50123c7eb9fd3d21bf669750c04bb1daf5ed4cfe8a76741", func := "homecoming/homecominglaw13.RetryTells", spec := "retryTells", unfollowed := true, recurses := true, apart := false }
def RetryTellsSaid : Prop := retryTellsRow.holds Try.pinned (OpenSpec.ofChange retryTellsSpec)

/-- ITS FALSE NEIGHBOUR: 'it returns false'. Refute it at one input. -/
def retryTellsWrong : ChangeSpec := { name := "retryTells", fn := fun _ => fun
  | [d1, d2, d3] => { results := [.lit (.bool false)], args := [d1, d2, d3] }
  | _ => none }
def RetryTellsWrongFalsely : Prop := retryTellsRow.holds Try.pinned (OpenSpec.ofChange retryTellsWrong)

/-- 'homecominglaw13.RetryRises': WHATEVER THE INPUT: true; the input reads as it did. -/
def retryRisesSpec : ChangeSpec := { name := "retryRises", fn := fun _ => fun
  | [d1, d2] => { results := [.lit (.bool true)], args := [d1, d2] }
  | _ => none }
def retryRisesRow : OpenClaim := { program := "ytdkiainmjdcfmaa", sum := "5ac0b208a507c995d50123c7eb9fd3d21bf669750c04bb1daf5ed4cfe8a76741", func := "homecoming/homecominglaw13.RetryRises", spec := "retryRises", unfollowed := true, recurses := true, apart := false }
def RetryRisesSaid : Prop := retryRisesRow.holds Try.pinned (OpenSpec.ofChange retryRisesSpec)

/-- ITS FALSE NEIGHBOUR: 'it returns false'. Refute it at one input. -/
def retryRisesWrong : ChangeSpec := { name := "retryRises", fn := fun _ => fun
  | [d1, d2] => { results := [.lit (.bool false)], args := [d1, d2] }
  | _ => none }
def RetryRisesWrongFalsely : Prop := retryRisesRow.holds Try.pinned (OpenSpec.ofChange retryRisesWrong)

/-- 'homecominglaw13.RetrySums': WHATEVER THE INPUT: true; the input reads as it did. -/
def retrySumsSpec : ChangeSpec := { name := "retrySums", fn := fun _ => fun
  | [d] => { results := [.lit (.bool true)], args := [d] }
  | _ => none }
def retrySumsRow : OpenClaim := { program := "ytdkiainmjdcfmaa", sum := "5ac0b208a507c995d50123c7eb9fd3d21bf669750c04bb1daf5ed4cfe8a76741", func := "homecoming/homecominglaw13.RetrySums", spec := "retrySums", unfollowed := true, recurses := true, apart := false }
def RetrySumsSaid : Prop := retrySumsRow.holds Try.pinned (OpenSpec.ofChange retrySumsSpec)

/-- ITS FALSE NEIGHBOUR: 'it returns false'. Refute it at one input. -/
def retrySumsWrong : ChangeSpec := { name := "retrySums", fn := fun _ => fun
  | [d] => { results := [.lit (.bool false)], args := [d] }
  | _ => none }
def RetrySumsWrongFalsely : Prop := retrySumsRow.holds Try.pinned (OpenSpec.ofChange retrySumsWrong)

/-- 'homecominglaw13.RetryWithin': WHATEVER THE INPUT: true; the input reads as it did. -/
def retryWithinSpec : ChangeSpec := { name := "retryWithin", fn := fun _ => fun
  | [d1, d2, d3] => { results := [.lit (.bool true)], args := [d1, d2, d3] }
  | _ => none }
def retryWithinRow : OpenClaim := { program := "ytdkiainmjdcfmaa", sum := "5ac0b208a507c995d50123c7eb9fd3d21bf669750c04bb1daf5ed4cfe8a76741", func := "homecoming/homecominglaw13.RetryWithin", spec := "retryWithin", unfollowed := true, recurses := true, apart := false }
def RetryWithinSaid : Prop := retryWithinRow.holds Try.pinned (OpenSpec.ofChange retryWithinSpec)

/-- ITS FALSE NEIGHBOUR: 'it returns false'. Refute it at one input. -/
def retryWithinWrong : ChangeSpec := { name := "retryWithin", fn := fun _ => fun
  | [d1, d2, d3] => { results := [.lit (.bool false)], args := [d1, d2, d3] }
  | _ => none }
def RetryWithinWrongFalsely : Prop := retryWithinRow.holds Try.pinned (OpenSpec.ofChange retryWithinWrong)

/-- 'homecominglaw13.RetryTries': WHATEVER THE INPUT: true; the input reads as it did. -/
def retryTriesSpec : ChangeSpec := { name := "retryTries", fn := fun _ => fun
  | [d1, d2] => { results := [.lit (.bool true)], args := [d1, d2] }
  | _ => none }
def retryTriesRow : OpenClaim := { program := "ytdkiainmjdcfmaa", sum := "5ac0b208a507c995d50123c7eb9fd3d21bf669750c04bb1daf5ed4cfe8a76741", func := "homecoming/homecominglaw13.RetryTries", spec := "retryTries", unfollowed := true, recurses := true, apart := false }
def RetryTriesSaid : Prop := retryTriesRow.holds Try.pinned (OpenSpec.ofChange retryTriesSpec)

/-- ITS FALSE NEIGHBOUR: 'it returns false'. Refute it at one input. -/
def retryTriesWrong : ChangeSpec := { name := "retryTries", fn := fun _ => fun
  | [d1, d2] => { results := [.lit (.bool false)], args := [d1, d2] }
  | _ => none }
def RetryTriesWrongFalsely : Prop := retryTriesRow.holds Try.pinned (OpenSpec.ofChange retryTriesWrong)

/- THE SECOND FORM. 'bulk': how many values and letters a reading holds, each counted each time it is reached (what is shared counts as often as it is met; a slice's spare places count too). A statement '..UptoSaid' is the law's where the arguments, and the package variables that the reading takes, are together of bulk at most 1048576: NARROWER than '..Said'. Prove '..Said' where nothing that the law and all that it calls make is longer than what came in: it says more and counts as full. Else prove '..UptoSaid'. A law counts once. -/
mutual
def uptoBulk {H : Type} : DataW H → Nat
  | .lit (.string bytes) => bytes.length + 1
  | .lit _ => 1
  | .nil => 1
  | .ptr d => uptoBulk d + 1
  | .slice elems spare => uptoBulkAll elems + uptoBulkAll spare + 1
  | .agg parts => uptoBulkAll parts + 1
  | .iface _ d => uptoBulk d + 1
  | .map entries => uptoBulkEntries entries + 1
  | .held _ => 1
def uptoBulkAll {H : Type} : List (DataW H) → Nat
  | [] => 0
  | d :: r => uptoBulk d + uptoBulkAll r
def uptoBulkEntries {H : Type} : List (Lit × DataW H) → Nat
  | [] => 0
  | x :: r => uptoBulkEntry x + uptoBulkEntries r
def uptoBulkEntry {H : Type} : Lit × DataW H → Nat
  | (.string bytes, d) => bytes.length + uptoBulk d + 1
  | (_, d) => uptoBulk d + 1
 end
def uptoSmall : (H : Type) → List (DataW H) → Bool := fun _ ds => decide (uptoBulkAll ds ≤ 1048576)
def OpenSpec.upto (s : _root_.Go.ChangeSpec) : _root_.Go.OpenSpec := { _root_.Go.OpenSpec.ofChange s with cond := some uptoSmall }

/-- 'homecominglaw13.RetryTells', WHERE WHAT IT READS IS OF BULK AT MOST 1048576: true; the input reads as it did. -/
def retryTellsUptoRow : OpenClaim := { program := "ytdkiainmjdcfmaa", sum := "5ac0b208a507c995d50123c7eb9fd3d21bf669750c04bb1daf5ed4cfe8a76741", func := "homecoming/homecominglaw13.RetryTells", spec := "retryTells", unfollowed := true, recurses := true, apart := false, narrowed := true }
def RetryTellsUptoSaid : Prop := retryTellsUptoRow.holds Try.pinned (OpenSpec.upto retryTellsSpec)

/-- 'homecominglaw13.RetryRises', WHERE WHAT IT READS IS OF BULK AT MOST 1048576: true; the input reads as it did. -/
def retryRisesUptoRow : OpenClaim := { program := "ytdkiainmjdcfmaa", sum := "5ac0b208a507c995d50123c7eb9fd3d21bf669750c04bb1daf5ed4cfe8a76741", func := "homecoming/homecominglaw13.RetryRises", spec := "retryRises", unfollowed := true, recurses := true, apart := false, narrowed := true }
def RetryRisesUptoSaid : Prop := retryRisesUptoRow.holds Try.pinned (OpenSpec.upto retryRisesSpec)

/-- 'homecominglaw13.RetrySums', WHERE WHAT IT READS IS OF BULK AT MOST 1048576: true; the input reads as it did. -/
def retrySumsUptoRow : OpenClaim := { program := "ytdkiainmjdcfmaa", sum := "5ac0b208a507c995d50123c7eb9fd3d21bf669750c04bb1daf5ed4cfe8a76741", func := "homecoming/homecominglaw13.RetrySums", spec := "retrySums", unfollowed := true, recurses := true, apart := false, narrowed := true }
def RetrySumsUptoSaid : Prop := retrySumsUptoRow.holds Try.pinned (OpenSpec.upto retrySumsSpec)

/-- 'homecominglaw13.RetryWithin', WHERE WHAT IT READS IS OF BULK AT MOST 1048576: true; the input reads as it did. -/
def retryWithinUptoRow : OpenClaim := { program := "ytdkiainmjdcfmaa", sum := "5ac0b208a507c995d50123c7eb9fd3d21bf669750c04bb1daf5ed4cfe8a76741", func := "homecoming/homecominglaw13.RetryWithin", spec := "retryWithin", unfollowed := true, recurses := true, apart := false, narrowed := true }
def RetryWithinUptoSaid : Prop := retryWithinUptoRow.holds Try.pinned (OpenSpec.upto retryWithinSpec)

/-- 'homecominglaw13.RetryTries', WHERE WHAT IT READS IS OF BULK AT MOST 1048576: true; the input reads as it did. -/
def retryTriesUptoRow : OpenClaim := { program := "ytdkiainmjdcfmaa", sum := "5ac0b208a507c995d50123c7eb9fd3d21bf669750c04bb1daf5ed4cfe8a76741", func := "homecoming/homecominglaw13.RetryTries", spec := "retryTries", unfollowed := true, recurses := true, apart := false, narrowed := true }
def RetryTriesUptoSaid : Prop := retryTriesUptoRow.holds Try.pinned (OpenSpec.upto retryTriesSpec)

end Rows
end Go.Proofs.Ytdkiainmjdcfmaa
