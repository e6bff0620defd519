/-
  DERIVED. GIVEN WITH THE SEED: THE CARDS: each row of YtggecdgomgmhmaaDoorRows.lean that lists a variable, with what it lists TIED to the program's text (the seventh form; the later family's looks); each row that meets fmt, with fmt's text TOLD by the authors' own Lean function (tested against real Go, not proved from fmt's source: count such statements apart). THE CARD IS WHAT COUNTS. Prove the row's statement (the work); the ties are given (YtggecdgomgmhmaaDoorTie.lean); close each card by the builder's one call (the guide's Derived/Test/ToyasCard.lean, 'card_holds'). Laid BY PROGRAM, IN A SANDBOX (cutbox-door.mjs). By AI agents, Wed Nov 11 2026. No macro, syntax, notation, axiom, sorry.
-/
import Derived.Test.YtggecdgomgmhmaaDoorRows
import GoSem.ClaimSeven
namespace Go.Proofs.YtggecdgomgmhmaaDoor
namespace Rows

/-- THE TIED CARD OF 'homecominglaw05.HalvesSafe'. -/
def halvesSafeCard : Claim7 := { stood := { row := halvesSafeRow, standIns := [], harness := (true, "3d9c1cc38995510f86710b1e27c7168594a117acc3efc41d703dee9511766aa3"), looks := false }, kinds := [], alts := [], laidByText := true, laidKinds := [.data], laidTests := true, laidLooks := .later }
def HalvesSafeCardSaid : Prop := Claim7.holds Tryd.pinned (.plain (OpenSpec.ofChange halvesSafeSpec)) halvesSafeCard

/-- THE TIED CARD OF 'homecominglaw05.HalvesRoom'. -/
def halvesRoomCard : Claim7 := { stood := { row := halvesRoomRow, standIns := [], harness := (true, "3d9c1cc38995510f86710b1e27c7168594a117acc3efc41d703dee9511766aa3"), looks := false }, kinds := [], alts := [], laidByText := true, laidKinds := [.data], laidTests := true, laidLooks := .later }
def HalvesRoomCardSaid : Prop := Claim7.holds Tryd.pinned (.plain (OpenSpec.ofChange halvesRoomSpec)) halvesRoomCard

/-- THE TIED CARD OF 'homecominglaw05.HalvesNil'. -/
def halvesNilCard : Claim7 := { stood := { row := halvesNilRow, standIns := [], harness := (true, "3d9c1cc38995510f86710b1e27c7168594a117acc3efc41d703dee9511766aa3"), looks := false }, kinds := [], alts := [], laidByText := true, laidKinds := [.data], laidTests := true, laidLooks := .later }
def HalvesNilCardSaid : Prop := Claim7.holds Tryd.pinned (.plain (OpenSpec.ofChange halvesNilSpec)) halvesNilCard

/-- THE TIED CARD OF 'homecominglaw05.HalvesAgain'. -/
def halvesAgainCard : Claim7 := { stood := { row := halvesAgainRow, standIns := [], harness := (true, "3d9c1cc38995510f86710b1e27c7168594a117acc3efc41d703dee9511766aa3"), looks := false }, kinds := [], alts := [], laidByText := true, laidKinds := [.data], laidTests := true, laidLooks := .later }
def HalvesAgainCardSaid : Prop := Claim7.holds Tryd.pinned (.plain (OpenSpec.ofChange halvesAgainSpec)) halvesAgainCard

/-- THE SECOND FORM's CARD OF 'homecominglaw05.HalvesSafe'. -/
def halvesSafeUptoCard : Claim7 := { stood := { row := halvesSafeUptoRow, standIns := [], harness := (true, "3d9c1cc38995510f86710b1e27c7168594a117acc3efc41d703dee9511766aa3"), looks := false }, kinds := [], alts := [], laidByText := true, laidKinds := [.data], laidTests := true, laidLooks := .later }
def HalvesSafeUptoCardSaid : Prop := Claim7.holds Tryd.pinned (.plain (OpenSpec.upto halvesSafeSpec)) halvesSafeUptoCard

/-- THE SECOND FORM's CARD OF 'homecominglaw05.HalvesRoom'. -/
def halvesRoomUptoCard : Claim7 := { stood := { row := halvesRoomUptoRow, standIns := [], harness := (true, "3d9c1cc38995510f86710b1e27c7168594a117acc3efc41d703dee9511766aa3"), looks := false }, kinds := [], alts := [], laidByText := true, laidKinds := [.data], laidTests := true, laidLooks := .later }
def HalvesRoomUptoCardSaid : Prop := Claim7.holds Tryd.pinned (.plain (OpenSpec.upto halvesRoomSpec)) halvesRoomUptoCard

/-- THE SECOND FORM's CARD OF 'homecominglaw05.HalvesNil'. -/
def halvesNilUptoCard : Claim7 := { stood := { row := halvesNilUptoRow, standIns := [], harness := (true, "3d9c1cc38995510f86710b1e27c7168594a117acc3efc41d703dee9511766aa3"), looks := false }, kinds := [], alts := [], laidByText := true, laidKinds := [.data], laidTests := true, laidLooks := .later }
def HalvesNilUptoCardSaid : Prop := Claim7.holds Tryd.pinned (.plain (OpenSpec.upto halvesNilSpec)) halvesNilUptoCard

/-- THE SECOND FORM's CARD OF 'homecominglaw05.HalvesAgain'. -/
def halvesAgainUptoCard : Claim7 := { stood := { row := halvesAgainUptoRow, standIns := [], harness := (true, "3d9c1cc38995510f86710b1e27c7168594a117acc3efc41d703dee9511766aa3"), looks := false }, kinds := [], alts := [], laidByText := true, laidKinds := [.data], laidTests := true, laidLooks := .later }
def HalvesAgainUptoCardSaid : Prop := Claim7.holds Tryd.pinned (.plain (OpenSpec.upto halvesAgainSpec)) halvesAgainUptoCard
end Rows
end Go.Proofs.YtggecdgomgmhmaaDoor
