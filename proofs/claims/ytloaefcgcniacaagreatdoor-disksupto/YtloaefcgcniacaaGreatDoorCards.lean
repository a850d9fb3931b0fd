/-
  DERIVED. GIVEN WITH THE SEED: THE CARDS: each row of YtloaefcgcniacaaGreatDoorRows.lean that lists a variable, with what it lists TIED to the program's text (the seventh form; the later family's looks); each row that meets fmt, with fmt's text TOLD by the authors' own Lean function (tested against real Go, not proved from fmt's source: count such statements apart). THE CARD IS WHAT COUNTS. Prove the row's statement (the work); the ties are given (YtloaefcgcniacaaGreatDoorTie.lean); close each card by the builder's one call (the guide's Derived/Test/ToyasCard.lean, 'card_holds'). Laid BY PROGRAM, IN A SANDBOX (cutbox-door.mjs). By AI agents, Wed Nov 11 2026. No macro, syntax, notation, axiom, sorry.
-/
import Derived.Test.YtloaefcgcniacaaGreatDoorRows
import GoSem.ClaimSeven
namespace Go.Proofs.YtloaefcgcniacaaGreatDoor
namespace Rows

/-- THE TIED CARD OF 'lockboxlaw.Streams'. -/
def streamsCard : Claim7 := { stood := { row := streamsRow, standIns := [], harness := (true, "37e479e892d97eb0797ab081238064563a830faca4a5739daf5841576cb137fa"), looks := true }, kinds := [], alts := [], goes := true, laidByText := true, laidKinds := [.handle, .sentinel, .sentinel], laidTests := true, laidLooks := .later }
def StreamsCardSaid : Prop := Claim7.holds Tryz.pinned (.plain (OpenSpec.ofChange streamsSpec)) streamsCard

/-- THE TIED CARD OF 'lockboxlaw.Seals'. -/
def sealsCard : Claim7 := { stood := { row := sealsRow, standIns := [], harness := (true, "37e479e892d97eb0797ab081238064563a830faca4a5739daf5841576cb137fa"), looks := true }, kinds := [], alts := [], goes := true, laidByText := true, laidKinds := [.handle, .sentinel, .sentinel], laidTests := true, laidLooks := .later }
def SealsCardSaid : Prop := Claim7.holds Tryz.pinned (.plain (OpenSpec.ofChange sealsSpec)) sealsCard

/-- THE TIED CARD OF 'lockboxlaw.Opens'. -/
def opensCard : Claim7 := { stood := { row := opensRow, standIns := [], harness := (true, "37e479e892d97eb0797ab081238064563a830faca4a5739daf5841576cb137fa"), looks := true }, kinds := [], alts := [], goes := true, laidByText := true, laidKinds := [.handle, .sentinel, .sentinel], laidTests := true, laidLooks := .later }
def OpensCardSaid : Prop := Claim7.holds Tryz.pinned (.plain (OpenSpec.ofChange opensSpec)) opensCard

/-- THE TIED CARD OF 'lockboxlaw.Disks'. -/
def disksCard : Claim7 := { stood := { row := disksRow, standIns := [], harness := (true, "37e479e892d97eb0797ab081238064563a830faca4a5739daf5841576cb137fa"), looks := true }, kinds := [], alts := [], goes := true, laidByText := true, laidKinds := [.handle, .sentinel, .sentinel], laidTests := true, laidLooks := .later }
def DisksCardSaid : Prop := Claim7.holds Tryz.pinned (.plain (OpenSpec.ofChange disksSpec)) disksCard

/-- THE TIED CARD OF 'lockboxlaw.Leasts'. -/
def leastsCard : Claim7 := { stood := { row := leastsRow, standIns := [], harness := (true, "37e479e892d97eb0797ab081238064563a830faca4a5739daf5841576cb137fa"), looks := true }, kinds := [], alts := [], goes := true, laidByText := true, laidKinds := [.handle, .sentinel, .sentinel], laidTests := true, laidLooks := .later }
def LeastsCardSaid : Prop := Claim7.holds Tryz.pinned (.plain (OpenSpec.ofChange leastsSpec)) leastsCard

/-- THE TIED CARD OF 'lockboxlaw.Stores'. -/
def storesCard : Claim7 := { stood := { row := storesRow, standIns := [], harness := (true, "37e479e892d97eb0797ab081238064563a830faca4a5739daf5841576cb137fa"), looks := true }, kinds := [], alts := [], goes := true, laidByText := true, laidKinds := [.handle, .sentinel, .sentinel], laidTests := true, laidLooks := .later }
def StoresCardSaid : Prop := Claim7.holds Tryz.pinned (.plain (OpenSpec.ofChange storesSpec)) storesCard

/-- THE TIED CARD OF 'lockboxkeep.Truth'. -/
def truthCard : Claim7 := { stood := { row := truthRow, standIns := [], harness := (true, "37e479e892d97eb0797ab081238064563a830faca4a5739daf5841576cb137fa"), looks := true }, kinds := [], alts := [], goes := true, laidByText := true, laidKinds := [.handle, .sentinel, .sentinel], laidTests := true, laidLooks := .later }
def TruthCardSaid : Prop := Claim7.holds Tryz.pinned (.plain (OpenSpec.ofChange truthSpec)) truthCard

/-- THE TIED CARD OF 'lockboxlaw.All'. -/
def allCard : Claim7 := { stood := { row := allRow, standIns := [], harness := (true, "37e479e892d97eb0797ab081238064563a830faca4a5739daf5841576cb137fa"), looks := true }, kinds := [], alts := [], goes := true, laidByText := true, laidKinds := [.handle, .sentinel, .sentinel], laidTests := true, laidLooks := .later }
def AllCardSaid : Prop := Claim7.holds Tryz.pinned (.plain (OpenSpec.ofChange allSpec)) allCard

/-- THE SECOND FORM's CARD OF 'lockboxlaw.Streams'. -/
def streamsUptoCard : Claim7 := { stood := { row := streamsUptoRow, standIns := [], harness := (true, "37e479e892d97eb0797ab081238064563a830faca4a5739daf5841576cb137fa"), looks := true }, kinds := [], alts := [], goes := true, laidByText := true, laidKinds := [.handle, .sentinel, .sentinel], laidTests := true, laidLooks := .later }
def StreamsUptoCardSaid : Prop := Claim7.holds Tryz.pinned (.plain (OpenSpec.upto streamsSpec)) streamsUptoCard

/-- THE SECOND FORM's CARD OF 'lockboxlaw.Seals'. -/
def sealsUptoCard : Claim7 := { stood := { row := sealsUptoRow, standIns := [], harness := (true, "37e479e892d97eb0797ab081238064563a830faca4a5739daf5841576cb137fa"), looks := true }, kinds := [], alts := [], goes := true, laidByText := true, laidKinds := [.handle, .sentinel, .sentinel], laidTests := true, laidLooks := .later }
def SealsUptoCardSaid : Prop := Claim7.holds Tryz.pinned (.plain (OpenSpec.upto sealsSpec)) sealsUptoCard

/-- THE SECOND FORM's CARD OF 'lockboxlaw.Opens'. -/
def opensUptoCard : Claim7 := { stood := { row := opensUptoRow, standIns := [], harness := (true, "37e479e892d97eb0797ab081238064563a830faca4a5739daf5841576cb137fa"), looks := true }, kinds := [], alts := [], goes := true, laidByText := true, laidKinds := [.handle, .sentinel, .sentinel], laidTests := true, laidLooks := .later }
def OpensUptoCardSaid : Prop := Claim7.holds Tryz.pinned (.plain (OpenSpec.upto opensSpec)) opensUptoCard

/-- THE SECOND FORM's CARD OF 'lockboxlaw.Disks'. -/
def disksUptoCard : Claim7 := { stood := { row := disksUptoRow, standIns := [], harness := (true, "37e479e892d97eb0797ab081238064563a830faca4a5739daf5841576cb137fa"), looks := true }, kinds := [], alts := [], goes := true, laidByText := true, laidKinds := [.handle, .sentinel, .sentinel], laidTests := true, laidLooks := .later }
def DisksUptoCardSaid : Prop := Claim7.holds Tryz.pinned (.plain (OpenSpec.upto disksSpec)) disksUptoCard

/-- THE SECOND FORM's CARD OF 'lockboxlaw.Leasts'. -/
def leastsUptoCard : Claim7 := { stood := { row := leastsUptoRow, standIns := [], harness := (true, "37e479e892d97eb0797ab081238064563a830faca4a5739daf5841576cb137fa"), looks := true }, kinds := [], alts := [], goes := true, laidByText := true, laidKinds := [.handle, .sentinel, .sentinel], laidTests := true, laidLooks := .later }
def LeastsUptoCardSaid : Prop := Claim7.holds Tryz.pinned (.plain (OpenSpec.upto leastsSpec)) leastsUptoCard

/-- THE SECOND FORM's CARD OF 'lockboxlaw.Stores'. -/
def storesUptoCard : Claim7 := { stood := { row := storesUptoRow, standIns := [], harness := (true, "37e479e892d97eb0797ab081238064563a830faca4a5739daf5841576cb137fa"), looks := true }, kinds := [], alts := [], goes := true, laidByText := true, laidKinds := [.handle, .sentinel, .sentinel], laidTests := true, laidLooks := .later }
def StoresUptoCardSaid : Prop := Claim7.holds Tryz.pinned (.plain (OpenSpec.upto storesSpec)) storesUptoCard

/-- THE SECOND FORM's CARD OF 'lockboxkeep.Truth'. -/
def truthUptoCard : Claim7 := { stood := { row := truthUptoRow, standIns := [], harness := (true, "37e479e892d97eb0797ab081238064563a830faca4a5739daf5841576cb137fa"), looks := true }, kinds := [], alts := [], goes := true, laidByText := true, laidKinds := [.handle, .sentinel, .sentinel], laidTests := true, laidLooks := .later }
def TruthUptoCardSaid : Prop := Claim7.holds Tryz.pinned (.plain (OpenSpec.upto truthSpec)) truthUptoCard

/-- THE SECOND FORM's CARD OF 'lockboxlaw.All'. -/
def allUptoCard : Claim7 := { stood := { row := allUptoRow, standIns := [], harness := (true, "37e479e892d97eb0797ab081238064563a830faca4a5739daf5841576cb137fa"), looks := true }, kinds := [], alts := [], goes := true, laidByText := true, laidKinds := [.handle, .sentinel, .sentinel], laidTests := true, laidLooks := .later }
def AllUptoCardSaid : Prop := Claim7.holds Tryz.pinned (.plain (OpenSpec.upto allSpec)) allUptoCard
end Rows
end Go.Proofs.YtloaefcgcniacaaGreatDoor
