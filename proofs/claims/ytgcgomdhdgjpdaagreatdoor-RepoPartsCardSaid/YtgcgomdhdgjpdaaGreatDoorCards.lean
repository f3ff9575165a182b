/-
  DERIVED. GIVEN WITH THE SEED: THE CARDS: each row of YtgcgomdhdgjpdaaGreatDoorRows.lean that lists a variable, with what it lists TIED to the program's text (the seventh form; the later family's looks); each row that meets fmt, with fmt's text TOLD by the authors' own Lean function (tested against real Go, not proved from fmt's source: count such statements apart). THE CARD IS WHAT COUNTS. Prove the row's statement (the work); the ties are given (YtgcgomdhdgjpdaaGreatDoorTie.lean); close each card by the builder's one call (the guide's Derived/Test/ToyasCard.lean, 'card_holds'). Laid BY PROGRAM, IN A SANDBOX (cutbox-door.mjs). By AI agents, Wed Nov 11 2026. No macro, syntax, notation, axiom, sorry.
-/
import Derived.Test.YtgcgomdhdgjpdaaGreatDoorRows
import GoSem.ClaimSeven
namespace Go.Proofs.YtgcgomdhdgjpdaaGreatDoor
namespace Rows

/-- THE TIED CARD OF 'cartagelaw11.RepoWhole'. -/
def repoWholeCard : Claim7 := { stood := { row := repoWholeRow, standIns := [], harness := (true, "c7fa39d497e490059aa73f0d63d25da2d36797bafb38e7aaa325fc2e53d0ff61"), looks := true }, kinds := [], alts := [], laidByText := true, laidKinds := [.data, .sentinel, .sentinel, .sentinel, .sentinel, .sentinel, .sentinel, .sentinel, .sentinel, .sentinel, .sentinel, .sentinel, .data, .data, .pinned], laidTests := true, laidLooks := .later }
def RepoWholeCardSaid : Prop := Claim7.holds Tryz.pinned (.plain (OpenSpec.ofChange repoWholeSpec)) repoWholeCard

/-- THE TIED CARD OF 'cartagelaw11.RepoParts'. -/
def repoPartsCard : Claim7 := { stood := { row := repoPartsRow, standIns := [], harness := (true, "c7fa39d497e490059aa73f0d63d25da2d36797bafb38e7aaa325fc2e53d0ff61"), looks := true }, kinds := [], alts := [], laidByText := true, laidKinds := [.data, .sentinel, .sentinel, .sentinel, .sentinel, .sentinel, .sentinel, .sentinel, .sentinel, .sentinel, .sentinel, .sentinel, .sentinel, .sentinel, .sentinel, .sentinel, .sentinel, .sentinel, .sentinel, .sentinel, .sentinel, .sentinel, .sentinel, .data, .data, .pinned], laidTests := true, laidLooks := .later }
def RepoPartsCardSaid : Prop := Claim7.holds Tryz.pinned (.plain (OpenSpec.ofChange repoPartsSpec)) repoPartsCard

/-- THE SECOND FORM's CARD OF 'cartagelaw11.RepoWhole'. -/
def repoWholeUptoCard : Claim7 := { stood := { row := repoWholeUptoRow, standIns := [], harness := (true, "c7fa39d497e490059aa73f0d63d25da2d36797bafb38e7aaa325fc2e53d0ff61"), looks := true }, kinds := [], alts := [], laidByText := true, laidKinds := [.data, .sentinel, .sentinel, .sentinel, .sentinel, .sentinel, .sentinel, .sentinel, .sentinel, .sentinel, .sentinel, .sentinel, .data, .data, .pinned], laidTests := true, laidLooks := .later }
def RepoWholeUptoCardSaid : Prop := Claim7.holds Tryz.pinned (.plain (OpenSpec.upto repoWholeSpec)) repoWholeUptoCard

/-- THE SECOND FORM's CARD OF 'cartagelaw11.RepoParts'. -/
def repoPartsUptoCard : Claim7 := { stood := { row := repoPartsUptoRow, standIns := [], harness := (true, "c7fa39d497e490059aa73f0d63d25da2d36797bafb38e7aaa325fc2e53d0ff61"), looks := true }, kinds := [], alts := [], laidByText := true, laidKinds := [.data, .sentinel, .sentinel, .sentinel, .sentinel, .sentinel, .sentinel, .sentinel, .sentinel, .sentinel, .sentinel, .sentinel, .sentinel, .sentinel, .sentinel, .sentinel, .sentinel, .sentinel, .sentinel, .sentinel, .sentinel, .sentinel, .sentinel, .data, .data, .pinned], laidTests := true, laidLooks := .later }
def RepoPartsUptoCardSaid : Prop := Claim7.holds Tryz.pinned (.plain (OpenSpec.upto repoPartsSpec)) repoPartsUptoCard
end Rows
end Go.Proofs.YtgcgomdhdgjpdaaGreatDoor
