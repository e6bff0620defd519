/-
  DERIVED. GIVEN WITH THE SEED: THE CARDS: each row of YtfjdcopndkdbmaaGreatDoorRows.lean that lists a variable, with what it lists TIED to the program's text (the seventh form; the later family's looks); each row that meets fmt, with fmt's text TOLD by the authors' own Lean function (tested against real Go, not proved from fmt's source: count such statements apart). THE CARD IS WHAT COUNTS. Prove the row's statement (the work); the ties are given (YtfjdcopndkdbmaaGreatDoorTie.lean); close each card by the builder's one call (the guide's Derived/Test/ToyasCard.lean, 'card_holds'). Laid BY PROGRAM, IN A SANDBOX (cutbox-door.mjs). By AI agents, Wed Nov 11 2026. No macro, syntax, notation, axiom, sorry.
-/
import Derived.Test.YtfjdcopndkdbmaaGreatDoorRows
import GoSem.ClaimSeven
namespace Go.Proofs.YtfjdcopndkdbmaaGreatDoor
namespace Rows

/-- THE TIED CARD OF 'homecominglaw11.VaultPlays'. -/
def vaultPlaysCard : Claim7 := { stood := { row := vaultPlaysRow, standIns := [], harness := (true, "db57fb9ac8e955a876ed53daa966c05a84e6cf1ca336c395c2b712d997d7ee06"), looks := false }, kinds := [], alts := [], laidByText := true, laidKinds := [.data, .data, .data, .pinned], laidTests := true, laidLooks := .later }
def VaultPlaysCardSaid : Prop := Claim7.holds Tryz.pinned (.plain (OpenSpec.ofChange vaultPlaysSpec)) vaultPlaysCard

/-- THE TIED CARD OF 'homecominglaw11.VaultOnce'. -/
def vaultOnceCard : Claim7 := { stood := { row := vaultOnceRow, standIns := [], harness := (true, "db57fb9ac8e955a876ed53daa966c05a84e6cf1ca336c395c2b712d997d7ee06"), looks := false }, kinds := [], alts := [], laidByText := true, laidKinds := [.data, .data, .data, .pinned], laidTests := true, laidLooks := .later }
def VaultOnceCardSaid : Prop := Claim7.holds Tryz.pinned (.plain (OpenSpec.ofChange vaultOnceSpec)) vaultOnceCard

/-- THE TIED CARD OF 'homecominglaw11.VaultTries'. -/
def vaultTriesCard : Claim7 := { stood := { row := vaultTriesRow, standIns := [], harness := (true, "db57fb9ac8e955a876ed53daa966c05a84e6cf1ca336c395c2b712d997d7ee06"), looks := false }, kinds := [], alts := [], laidByText := true, laidKinds := [.data, .data, .data, .pinned], laidTests := true, laidLooks := .later }
def VaultTriesCardSaid : Prop := Claim7.holds Tryz.pinned (.plain (OpenSpec.ofChange vaultTriesSpec)) vaultTriesCard

/-- THE TIED CARD OF 'homecominglaw11.VaultCounts'. -/
def vaultCountsCard : Claim7 := { stood := { row := vaultCountsRow, standIns := [], harness := (true, "db57fb9ac8e955a876ed53daa966c05a84e6cf1ca336c395c2b712d997d7ee06"), looks := false }, kinds := [], alts := [], laidByText := true, laidKinds := [.data, .data, .data, .pinned], laidTests := true, laidLooks := .later }
def VaultCountsCardSaid : Prop := Claim7.holds Tryz.pinned (.plain (OpenSpec.ofChange vaultCountsSpec)) vaultCountsCard

/-- THE TIED CARD OF 'homecominglaw11.VaultKeeps'. -/
def vaultKeepsCard : Claim7 := { stood := { row := vaultKeepsRow, standIns := [], harness := (true, "db57fb9ac8e955a876ed53daa966c05a84e6cf1ca336c395c2b712d997d7ee06"), looks := false }, kinds := [], alts := [], laidByText := true, laidKinds := [.data, .data, .data, .pinned], laidTests := true, laidLooks := .later }
def VaultKeepsCardSaid : Prop := Claim7.holds Tryz.pinned (.plain (OpenSpec.ofChange vaultKeepsSpec)) vaultKeepsCard

/-- THE TIED CARD OF 'homecominglaw11.VaultLate'. -/
def vaultLateCard : Claim7 := { stood := { row := vaultLateRow, standIns := [], harness := (true, "db57fb9ac8e955a876ed53daa966c05a84e6cf1ca336c395c2b712d997d7ee06"), looks := false }, kinds := [], alts := [], laidByText := true, laidKinds := [.data, .data, .data, .pinned], laidTests := true, laidLooks := .later }
def VaultLateCardSaid : Prop := Claim7.holds Tryz.pinned (.plain (OpenSpec.ofChange vaultLateSpec)) vaultLateCard

/-- THE TIED CARD OF 'homecominglaw11.VaultLive'. -/
def vaultLiveCard : Claim7 := { stood := { row := vaultLiveRow, standIns := [], harness := (true, "db57fb9ac8e955a876ed53daa966c05a84e6cf1ca336c395c2b712d997d7ee06"), looks := false }, kinds := [], alts := [], laidByText := true, laidKinds := [.data, .data, .data, .pinned], laidTests := true, laidLooks := .later }
def VaultLiveCardSaid : Prop := Claim7.holds Tryz.pinned (.plain (OpenSpec.ofChange vaultLiveSpec)) vaultLiveCard

/-- THE SECOND FORM's CARD OF 'homecominglaw11.VaultPlays'. -/
def vaultPlaysUptoCard : Claim7 := { stood := { row := vaultPlaysUptoRow, standIns := [], harness := (true, "db57fb9ac8e955a876ed53daa966c05a84e6cf1ca336c395c2b712d997d7ee06"), looks := false }, kinds := [], alts := [], laidByText := true, laidKinds := [.data, .data, .data, .pinned], laidTests := true, laidLooks := .later }
def VaultPlaysUptoCardSaid : Prop := Claim7.holds Tryz.pinned (.plain (OpenSpec.upto vaultPlaysSpec)) vaultPlaysUptoCard

/-- THE SECOND FORM's CARD OF 'homecominglaw11.VaultOnce'. -/
def vaultOnceUptoCard : Claim7 := { stood := { row := vaultOnceUptoRow, standIns := [], harness := (true, "db57fb9ac8e955a876ed53daa966c05a84e6cf1ca336c395c2b712d997d7ee06"), looks := false }, kinds := [], alts := [], laidByText := true, laidKinds := [.data, .data, .data, .pinned], laidTests := true, laidLooks := .later }
def VaultOnceUptoCardSaid : Prop := Claim7.holds Tryz.pinned (.plain (OpenSpec.upto vaultOnceSpec)) vaultOnceUptoCard

/-- THE SECOND FORM's CARD OF 'homecominglaw11.VaultTries'. -/
def vaultTriesUptoCard : Claim7 := { stood := { row := vaultTriesUptoRow, standIns := [], harness := (true, "db57fb9ac8e955a876ed53daa966c05a84e6cf1ca336c395c2b712d997d7ee06"), looks := false }, kinds := [], alts := [], laidByText := true, laidKinds := [.data, .data, .data, .pinned], laidTests := true, laidLooks := .later }
def VaultTriesUptoCardSaid : Prop := Claim7.holds Tryz.pinned (.plain (OpenSpec.upto vaultTriesSpec)) vaultTriesUptoCard

/-- THE SECOND FORM's CARD OF 'homecominglaw11.VaultCounts'. -/
def vaultCountsUptoCard : Claim7 := { stood := { row := vaultCountsUptoRow, standIns := [], harness := (true, "db57fb9ac8e955a876ed53daa966c05a84e6cf1ca336c395c2b712d997d7ee06"), looks := false }, kinds := [], alts := [], laidByText := true, laidKinds := [.data, .data, .data, .pinned], laidTests := true, laidLooks := .later }
def VaultCountsUptoCardSaid : Prop := Claim7.holds Tryz.pinned (.plain (OpenSpec.upto vaultCountsSpec)) vaultCountsUptoCard

/-- THE SECOND FORM's CARD OF 'homecominglaw11.VaultKeeps'. -/
def vaultKeepsUptoCard : Claim7 := { stood := { row := vaultKeepsUptoRow, standIns := [], harness := (true, "db57fb9ac8e955a876ed53daa966c05a84e6cf1ca336c395c2b712d997d7ee06"), looks := false }, kinds := [], alts := [], laidByText := true, laidKinds := [.data, .data, .data, .pinned], laidTests := true, laidLooks := .later }
def VaultKeepsUptoCardSaid : Prop := Claim7.holds Tryz.pinned (.plain (OpenSpec.upto vaultKeepsSpec)) vaultKeepsUptoCard

/-- THE SECOND FORM's CARD OF 'homecominglaw11.VaultLate'. -/
def vaultLateUptoCard : Claim7 := { stood := { row := vaultLateUptoRow, standIns := [], harness := (true, "db57fb9ac8e955a876ed53daa966c05a84e6cf1ca336c395c2b712d997d7ee06"), looks := false }, kinds := [], alts := [], laidByText := true, laidKinds := [.data, .data, .data, .pinned], laidTests := true, laidLooks := .later }
def VaultLateUptoCardSaid : Prop := Claim7.holds Tryz.pinned (.plain (OpenSpec.upto vaultLateSpec)) vaultLateUptoCard

/-- THE SECOND FORM's CARD OF 'homecominglaw11.VaultLive'. -/
def vaultLiveUptoCard : Claim7 := { stood := { row := vaultLiveUptoRow, standIns := [], harness := (true, "db57fb9ac8e955a876ed53daa966c05a84e6cf1ca336c395c2b712d997d7ee06"), looks := false }, kinds := [], alts := [], laidByText := true, laidKinds := [.data, .data, .data, .pinned], laidTests := true, laidLooks := .later }
def VaultLiveUptoCardSaid : Prop := Claim7.holds Tryz.pinned (.plain (OpenSpec.upto vaultLiveSpec)) vaultLiveUptoCard
end Rows
end Go.Proofs.YtfjdcopndkdbmaaGreatDoor
