/-
  DERIVED. GIVEN WITH THE SEED: THE CARDS: each row of YtflgbnolfleicaaDoorRows.lean that lists a variable, with what it lists TIED to the program's text (the seventh form; the later family's looks); each row that meets fmt, with fmt's text TOLD by the authors' own Lean function (tested against real Go, not proved from fmt's source: count such statements apart). THE CARD IS WHAT COUNTS. Prove the row's statement (the work); the ties are given (YtflgbnolfleicaaDoorTie.lean); close each card by the builder's one call (the guide's Derived/Test/ToyasCard.lean, 'card_holds'). Laid BY PROGRAM, IN A SANDBOX (cutbox-door.mjs). By AI agents, Wed Nov 11 2026. No macro, syntax, notation, axiom, sorry.
-/
import Derived.Test.YtflgbnolfleicaaDoorRows
import GoSem.ClaimSeven
namespace Go.Proofs.YtflgbnolfleicaaDoor
namespace Rows

/-- THE TIED CARD OF 'homecominglaw10.MintOnce'. -/
def mintOnceCard : Claim7 := { stood := { row := mintOnceRow, standIns := [], harness := (true, "9df3e35f8ea9960b7926046dc6a05b083ae4e5b31c323730fa2522cb49d502a8"), looks := false }, kinds := [], alts := [], laidByText := true, laidKinds := [.data, .data, .data], laidTests := true, laidLooks := .later }
def MintOnceCardSaid : Prop := Claim7.holds Tryd.pinned (.plain (OpenSpec.ofChange mintOnceSpec)) mintOnceCard

/-- THE TIED CARD OF 'homecominglaw10.MintClock'. -/
def mintClockCard : Claim7 := { stood := { row := mintClockRow, standIns := [], harness := (true, "9df3e35f8ea9960b7926046dc6a05b083ae4e5b31c323730fa2522cb49d502a8"), looks := false }, kinds := [], alts := [], laidByText := true, laidKinds := [.data, .data, .data], laidTests := true, laidLooks := .later }
def MintClockCardSaid : Prop := Claim7.holds Tryd.pinned (.plain (OpenSpec.ofChange mintClockSpec)) mintClockCard

/-- THE TIED CARD OF 'homecominglaw10.MintLives'. -/
def mintLivesCard : Claim7 := { stood := { row := mintLivesRow, standIns := [], harness := (true, "9df3e35f8ea9960b7926046dc6a05b083ae4e5b31c323730fa2522cb49d502a8"), looks := false }, kinds := [], alts := [], laidByText := true, laidKinds := [.data, .data, .data, .data, .data, .data, .pinned], laidTests := true, laidLooks := .later }
def MintLivesCardSaid : Prop := Claim7.holds Tryd.pinned (.plain (OpenSpec.ofChange mintLivesSpec)) mintLivesCard

/-- THE SECOND FORM's CARD OF 'homecominglaw10.MintOnce'. -/
def mintOnceUptoCard : Claim7 := { stood := { row := mintOnceUptoRow, standIns := [], harness := (true, "9df3e35f8ea9960b7926046dc6a05b083ae4e5b31c323730fa2522cb49d502a8"), looks := false }, kinds := [], alts := [], laidByText := true, laidKinds := [.data, .data, .data], laidTests := true, laidLooks := .later }
def MintOnceUptoCardSaid : Prop := Claim7.holds Tryd.pinned (.plain (OpenSpec.upto mintOnceSpec)) mintOnceUptoCard

/-- THE SECOND FORM's CARD OF 'homecominglaw10.MintClock'. -/
def mintClockUptoCard : Claim7 := { stood := { row := mintClockUptoRow, standIns := [], harness := (true, "9df3e35f8ea9960b7926046dc6a05b083ae4e5b31c323730fa2522cb49d502a8"), looks := false }, kinds := [], alts := [], laidByText := true, laidKinds := [.data, .data, .data], laidTests := true, laidLooks := .later }
def MintClockUptoCardSaid : Prop := Claim7.holds Tryd.pinned (.plain (OpenSpec.upto mintClockSpec)) mintClockUptoCard

/-- THE SECOND FORM's CARD OF 'homecominglaw10.MintLives'. -/
def mintLivesUptoCard : Claim7 := { stood := { row := mintLivesUptoRow, standIns := [], harness := (true, "9df3e35f8ea9960b7926046dc6a05b083ae4e5b31c323730fa2522cb49d502a8"), looks := false }, kinds := [], alts := [], laidByText := true, laidKinds := [.data, .data, .data, .data, .data, .data, .pinned], laidTests := true, laidLooks := .later }
def MintLivesUptoCardSaid : Prop := Claim7.holds Tryd.pinned (.plain (OpenSpec.upto mintLivesSpec)) mintLivesUptoCard
end Rows
end Go.Proofs.YtflgbnolfleicaaDoor
