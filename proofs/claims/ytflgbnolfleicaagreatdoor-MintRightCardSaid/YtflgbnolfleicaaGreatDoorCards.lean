/-
  DERIVED. GIVEN WITH THE SEED: THE CARDS: each row of YtflgbnolfleicaaGreatDoorRows.lean that lists a variable, with what it lists TIED to the program's text (the seventh form; the later family's looks); each row that meets fmt, with fmt's text TOLD by the authors' own Lean function (tested against real Go, not proved from fmt's source: count such statements apart). THE CARD IS WHAT COUNTS. Prove the row's statement (the work); the ties are given (YtflgbnolfleicaaGreatDoorTie.lean); close each card by the builder's one call (the guide's Derived/Test/ToyasCard.lean, 'card_holds'). Laid BY PROGRAM, IN A SANDBOX (cutbox-door.mjs). By AI agents, Wed Nov 11 2026. No macro, syntax, notation, axiom, sorry.
-/
import Derived.Test.YtflgbnolfleicaaGreatDoorRows
import GoSem.ClaimSeven
namespace Go.Proofs.YtflgbnolfleicaaGreatDoor
namespace Rows

/-- THE TIED CARD OF 'homecominglaw10.MintTells'. -/
def mintTellsCard : Claim7 := { stood := { row := mintTellsRow, standIns := [], harness := (true, "1f501256d1de91ac5885e1a85ed63f3a16c61d8c518513f62e80313bf8680221"), looks := false }, kinds := [], alts := [], laidByText := true, laidKinds := [.data, .data, .data, .data, .data, .data, .pinned], laidTests := true, laidLooks := .later }
def MintTellsCardSaid : Prop := Claim7.holds Tryz.pinned (.plain (OpenSpec.ofChange mintTellsSpec)) mintTellsCard

/-- THE TIED CARD OF 'homecominglaw10.MintRight'. -/
def mintRightCard : Claim7 := { stood := { row := mintRightRow, standIns := [], harness := (true, "1f501256d1de91ac5885e1a85ed63f3a16c61d8c518513f62e80313bf8680221"), looks := false }, kinds := [], alts := [], laidByText := true, laidKinds := [.data, .data, .data, .data, .data, .data, .pinned], laidTests := true, laidLooks := .later }
def MintRightCardSaid : Prop := Claim7.holds Tryz.pinned (.plain (OpenSpec.ofChange mintRightSpec)) mintRightCard

/-- THE SECOND FORM's CARD OF 'homecominglaw10.MintTells'. -/
def mintTellsUptoCard : Claim7 := { stood := { row := mintTellsUptoRow, standIns := [], harness := (true, "1f501256d1de91ac5885e1a85ed63f3a16c61d8c518513f62e80313bf8680221"), looks := false }, kinds := [], alts := [], laidByText := true, laidKinds := [.data, .data, .data, .data, .data, .data, .pinned], laidTests := true, laidLooks := .later }
def MintTellsUptoCardSaid : Prop := Claim7.holds Tryz.pinned (.plain (OpenSpec.upto mintTellsSpec)) mintTellsUptoCard

/-- THE SECOND FORM's CARD OF 'homecominglaw10.MintRight'. -/
def mintRightUptoCard : Claim7 := { stood := { row := mintRightUptoRow, standIns := [], harness := (true, "1f501256d1de91ac5885e1a85ed63f3a16c61d8c518513f62e80313bf8680221"), looks := false }, kinds := [], alts := [], laidByText := true, laidKinds := [.data, .data, .data, .data, .data, .data, .pinned], laidTests := true, laidLooks := .later }
def MintRightUptoCardSaid : Prop := Claim7.holds Tryz.pinned (.plain (OpenSpec.upto mintRightSpec)) mintRightUptoCard
end Rows
end Go.Proofs.YtflgbnolfleicaaGreatDoor
