/-
  DERIVED. GIVEN WITH THE SEED: THE CARDS: each row of YthaejfbbefpojaaDoorRows.lean that lists a variable, with what it lists TIED to the program's text (the seventh form; the later family's looks); each row that meets fmt, with fmt's text TOLD by the authors' own Lean function (tested against real Go, not proved from fmt's source: count such statements apart). THE CARD IS WHAT COUNTS. Prove the row's statement (the work); the ties are given (YthaejfbbefpojaaDoorTie.lean); close each card by the builder's one call (the guide's Derived/Test/ToyasCard.lean, 'card_holds'). Laid BY PROGRAM, IN A SANDBOX (cutbox-door.mjs). By AI agents, Wed Nov 11 2026. No macro, syntax, notation, axiom, sorry.
-/
import Derived.Test.YthaejfbbefpojaaDoorRows
import GoSem.ClaimSeven
namespace Go.Proofs.YthaejfbbefpojaaDoor
namespace Rows

/-- THE TIED CARD OF 'homecominglaw06.ShaTells'. -/
def shaTellsCard : Claim7 := { stood := { row := shaTellsRow, standIns := [], harness := (true, "51b497c9613bc7d9fe0e848293f46c354f9b8da4a87e505b7a9f630cb31e204b"), looks := false }, kinds := [], alts := [], laidByText := true, laidKinds := [.data, .data], laidTests := true, laidLooks := .later }
def ShaTellsCardSaid : Prop := Claim7.holds Tryd.pinned (.plain (OpenSpec.ofChange shaTellsSpec)) shaTellsCard

/-- THE TIED CARD OF 'homecominglaw06.ShaLengths'. -/
def shaLengthsCard : Claim7 := { stood := { row := shaLengthsRow, standIns := [], harness := (true, "51b497c9613bc7d9fe0e848293f46c354f9b8da4a87e505b7a9f630cb31e204b"), looks := false }, kinds := [], alts := [], laidByText := true, laidKinds := [.data, .data], laidTests := true, laidLooks := .later }
def ShaLengthsCardSaid : Prop := Claim7.holds Tryd.pinned (.plain (OpenSpec.ofChange shaLengthsSpec)) shaLengthsCard

/-- THE TIED CARD OF 'homecominglaw06.ShaParts'. -/
def shaPartsCard : Claim7 := { stood := { row := shaPartsRow, standIns := [], harness := (true, "51b497c9613bc7d9fe0e848293f46c354f9b8da4a87e505b7a9f630cb31e204b"), looks := false }, kinds := [], alts := [], laidByText := true, laidKinds := [.data, .data], laidTests := true, laidLooks := .later }
def ShaPartsCardSaid : Prop := Claim7.holds Tryd.pinned (.plain (OpenSpec.ofChange shaPartsSpec)) shaPartsCard

/-- THE TIED CARD OF 'homecominglaw06.ShaMeters'. -/
def shaMetersCard : Claim7 := { stood := { row := shaMetersRow, standIns := [], harness := (true, "51b497c9613bc7d9fe0e848293f46c354f9b8da4a87e505b7a9f630cb31e204b"), looks := false }, kinds := [], alts := [], laidByText := true, laidKinds := [.data, .data], laidTests := true, laidLooks := .later }
def ShaMetersCardSaid : Prop := Claim7.holds Tryd.pinned (.plain (OpenSpec.ofChange shaMetersSpec)) shaMetersCard

/-- THE TIED CARD OF 'homecominglaw06.ShaHex'. -/
def shaHexCard : Claim7 := { stood := { row := shaHexRow, standIns := [], harness := (true, "51b497c9613bc7d9fe0e848293f46c354f9b8da4a87e505b7a9f630cb31e204b"), looks := false }, kinds := [], alts := [], laidByText := true, laidKinds := [.data, .data], laidTests := true, laidLooks := .later }
def ShaHexCardSaid : Prop := Claim7.holds Tryd.pinned (.plain (OpenSpec.ofChange shaHexSpec)) shaHexCard

/-- THE TIED CARD OF 'homecominglaw06.ShaBlocks'. -/
def shaBlocksCard : Claim7 := { stood := { row := shaBlocksRow, standIns := [], harness := (true, "51b497c9613bc7d9fe0e848293f46c354f9b8da4a87e505b7a9f630cb31e204b"), looks := false }, kinds := [], alts := [], laidByText := true, laidKinds := [.data, .data], laidTests := true, laidLooks := .later }
def ShaBlocksCardSaid : Prop := Claim7.holds Tryd.pinned (.plain (OpenSpec.ofChange shaBlocksSpec)) shaBlocksCard

/-- THE TIED CARD OF 'homecominglaw07.MacTells'. -/
def macTellsCard : Claim7 := { stood := { row := macTellsRow, standIns := [], harness := (true, "51b497c9613bc7d9fe0e848293f46c354f9b8da4a87e505b7a9f630cb31e204b"), looks := false }, kinds := [], alts := [], laidByText := true, laidKinds := [.data, .data], laidTests := true, laidLooks := .later }
def MacTellsCardSaid : Prop := Claim7.holds Tryd.pinned (.plain (OpenSpec.ofChange macTellsSpec)) macTellsCard

/-- THE TIED CARD OF 'homecominglaw07.MacCounts'. -/
def macCountsCard : Claim7 := { stood := { row := macCountsRow, standIns := [], harness := (true, "51b497c9613bc7d9fe0e848293f46c354f9b8da4a87e505b7a9f630cb31e204b"), looks := false }, kinds := [], alts := [], laidByText := true, laidKinds := [.data, .data], laidTests := true, laidLooks := .later }
def MacCountsCardSaid : Prop := Claim7.holds Tryd.pinned (.plain (OpenSpec.ofChange macCountsSpec)) macCountsCard

/-- THE TIED CARD OF 'homecominglaw07.MacEqual'. -/
def macEqualCard : Claim7 := { stood := { row := macEqualRow, standIns := [], harness := (true, "51b497c9613bc7d9fe0e848293f46c354f9b8da4a87e505b7a9f630cb31e204b"), looks := false }, kinds := [], alts := [], laidByText := true, laidKinds := [.data, .data], laidTests := true, laidLooks := .later }
def MacEqualCardSaid : Prop := Claim7.holds Tryd.pinned (.plain (OpenSpec.ofChange macEqualSpec)) macEqualCard

/-- THE TIED CARD OF 'homecominglaw07.MacKeys'. -/
def macKeysCard : Claim7 := { stood := { row := macKeysRow, standIns := [], harness := (true, "51b497c9613bc7d9fe0e848293f46c354f9b8da4a87e505b7a9f630cb31e204b"), looks := false }, kinds := [], alts := [], laidByText := true, laidKinds := [.data, .data], laidTests := true, laidLooks := .later }
def MacKeysCardSaid : Prop := Claim7.holds Tryd.pinned (.plain (OpenSpec.ofChange macKeysSpec)) macKeysCard

/-- THE TIED CARD OF 'homecominglaw07.MacSteps'. -/
def macStepsCard : Claim7 := { stood := { row := macStepsRow, standIns := [], harness := (true, "51b497c9613bc7d9fe0e848293f46c354f9b8da4a87e505b7a9f630cb31e204b"), looks := false }, kinds := [], alts := [], laidByText := true, laidKinds := [.data, .data], laidTests := true, laidLooks := .later }
def MacStepsCardSaid : Prop := Claim7.holds Tryd.pinned (.plain (OpenSpec.ofChange macStepsSpec)) macStepsCard

/-- THE SECOND FORM's CARD OF 'homecominglaw06.ShaTells'. -/
def shaTellsUptoCard : Claim7 := { stood := { row := shaTellsUptoRow, standIns := [], harness := (true, "51b497c9613bc7d9fe0e848293f46c354f9b8da4a87e505b7a9f630cb31e204b"), looks := false }, kinds := [], alts := [], laidByText := true, laidKinds := [.data, .data], laidTests := true, laidLooks := .later }
def ShaTellsUptoCardSaid : Prop := Claim7.holds Tryd.pinned (.plain (OpenSpec.upto shaTellsSpec)) shaTellsUptoCard

/-- THE SECOND FORM's CARD OF 'homecominglaw06.ShaLengths'. -/
def shaLengthsUptoCard : Claim7 := { stood := { row := shaLengthsUptoRow, standIns := [], harness := (true, "51b497c9613bc7d9fe0e848293f46c354f9b8da4a87e505b7a9f630cb31e204b"), looks := false }, kinds := [], alts := [], laidByText := true, laidKinds := [.data, .data], laidTests := true, laidLooks := .later }
def ShaLengthsUptoCardSaid : Prop := Claim7.holds Tryd.pinned (.plain (OpenSpec.upto shaLengthsSpec)) shaLengthsUptoCard

/-- THE SECOND FORM's CARD OF 'homecominglaw06.ShaParts'. -/
def shaPartsUptoCard : Claim7 := { stood := { row := shaPartsUptoRow, standIns := [], harness := (true, "51b497c9613bc7d9fe0e848293f46c354f9b8da4a87e505b7a9f630cb31e204b"), looks := false }, kinds := [], alts := [], laidByText := true, laidKinds := [.data, .data], laidTests := true, laidLooks := .later }
def ShaPartsUptoCardSaid : Prop := Claim7.holds Tryd.pinned (.plain (OpenSpec.upto shaPartsSpec)) shaPartsUptoCard

/-- THE SECOND FORM's CARD OF 'homecominglaw06.ShaMeters'. -/
def shaMetersUptoCard : Claim7 := { stood := { row := shaMetersUptoRow, standIns := [], harness := (true, "51b497c9613bc7d9fe0e848293f46c354f9b8da4a87e505b7a9f630cb31e204b"), looks := false }, kinds := [], alts := [], laidByText := true, laidKinds := [.data, .data], laidTests := true, laidLooks := .later }
def ShaMetersUptoCardSaid : Prop := Claim7.holds Tryd.pinned (.plain (OpenSpec.upto shaMetersSpec)) shaMetersUptoCard

/-- THE SECOND FORM's CARD OF 'homecominglaw06.ShaHex'. -/
def shaHexUptoCard : Claim7 := { stood := { row := shaHexUptoRow, standIns := [], harness := (true, "51b497c9613bc7d9fe0e848293f46c354f9b8da4a87e505b7a9f630cb31e204b"), looks := false }, kinds := [], alts := [], laidByText := true, laidKinds := [.data, .data], laidTests := true, laidLooks := .later }
def ShaHexUptoCardSaid : Prop := Claim7.holds Tryd.pinned (.plain (OpenSpec.upto shaHexSpec)) shaHexUptoCard

/-- THE SECOND FORM's CARD OF 'homecominglaw06.ShaBlocks'. -/
def shaBlocksUptoCard : Claim7 := { stood := { row := shaBlocksUptoRow, standIns := [], harness := (true, "51b497c9613bc7d9fe0e848293f46c354f9b8da4a87e505b7a9f630cb31e204b"), looks := false }, kinds := [], alts := [], laidByText := true, laidKinds := [.data, .data], laidTests := true, laidLooks := .later }
def ShaBlocksUptoCardSaid : Prop := Claim7.holds Tryd.pinned (.plain (OpenSpec.upto shaBlocksSpec)) shaBlocksUptoCard

/-- THE SECOND FORM's CARD OF 'homecominglaw07.MacTells'. -/
def macTellsUptoCard : Claim7 := { stood := { row := macTellsUptoRow, standIns := [], harness := (true, "51b497c9613bc7d9fe0e848293f46c354f9b8da4a87e505b7a9f630cb31e204b"), looks := false }, kinds := [], alts := [], laidByText := true, laidKinds := [.data, .data], laidTests := true, laidLooks := .later }
def MacTellsUptoCardSaid : Prop := Claim7.holds Tryd.pinned (.plain (OpenSpec.upto macTellsSpec)) macTellsUptoCard

/-- THE SECOND FORM's CARD OF 'homecominglaw07.MacCounts'. -/
def macCountsUptoCard : Claim7 := { stood := { row := macCountsUptoRow, standIns := [], harness := (true, "51b497c9613bc7d9fe0e848293f46c354f9b8da4a87e505b7a9f630cb31e204b"), looks := false }, kinds := [], alts := [], laidByText := true, laidKinds := [.data, .data], laidTests := true, laidLooks := .later }
def MacCountsUptoCardSaid : Prop := Claim7.holds Tryd.pinned (.plain (OpenSpec.upto macCountsSpec)) macCountsUptoCard

/-- THE SECOND FORM's CARD OF 'homecominglaw07.MacEqual'. -/
def macEqualUptoCard : Claim7 := { stood := { row := macEqualUptoRow, standIns := [], harness := (true, "51b497c9613bc7d9fe0e848293f46c354f9b8da4a87e505b7a9f630cb31e204b"), looks := false }, kinds := [], alts := [], laidByText := true, laidKinds := [.data, .data], laidTests := true, laidLooks := .later }
def MacEqualUptoCardSaid : Prop := Claim7.holds Tryd.pinned (.plain (OpenSpec.upto macEqualSpec)) macEqualUptoCard

/-- THE SECOND FORM's CARD OF 'homecominglaw07.MacKeys'. -/
def macKeysUptoCard : Claim7 := { stood := { row := macKeysUptoRow, standIns := [], harness := (true, "51b497c9613bc7d9fe0e848293f46c354f9b8da4a87e505b7a9f630cb31e204b"), looks := false }, kinds := [], alts := [], laidByText := true, laidKinds := [.data, .data], laidTests := true, laidLooks := .later }
def MacKeysUptoCardSaid : Prop := Claim7.holds Tryd.pinned (.plain (OpenSpec.upto macKeysSpec)) macKeysUptoCard

/-- THE SECOND FORM's CARD OF 'homecominglaw07.MacSteps'. -/
def macStepsUptoCard : Claim7 := { stood := { row := macStepsUptoRow, standIns := [], harness := (true, "51b497c9613bc7d9fe0e848293f46c354f9b8da4a87e505b7a9f630cb31e204b"), looks := false }, kinds := [], alts := [], laidByText := true, laidKinds := [.data, .data], laidTests := true, laidLooks := .later }
def MacStepsUptoCardSaid : Prop := Claim7.holds Tryd.pinned (.plain (OpenSpec.upto macStepsSpec)) macStepsUptoCard
end Rows
end Go.Proofs.YthaejfbbefpojaaDoor
