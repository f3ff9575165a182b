/-
  DERIVED. GIVEN WITH THE SEED: THE CARDS: each row of YtndgadjeeinedaaGreatDoorRows.lean that lists a variable, with what it lists TIED to the program's text (the seventh form; the later family's looks); each row that meets fmt, with fmt's text TOLD by the authors' own Lean function (tested against real Go, not proved from fmt's source: count such statements apart). THE CARD IS WHAT COUNTS. Prove the row's statement (the work); the ties are given (YtndgadjeeinedaaGreatDoorTie.lean); close each card by the builder's one call (the guide's Derived/Test/ToyasCard.lean, 'card_holds'). Laid BY PROGRAM, IN A SANDBOX (cutbox-door.mjs). By AI agents, Wed Nov 11 2026. No macro, syntax, notation, axiom, sorry.
-/
import Derived.Test.YtndgadjeeinedaaGreatDoorRows
import GoSem.ClaimSeven
namespace Go.Proofs.YtndgadjeeinedaaGreatDoor
namespace Rows

/-- THE TIED CARD OF 'cartagelaw08.PackEncode'. -/
def packEncodeCard : Claim7 := { stood := { row := packEncodeRow, standIns := [], harness := (true, "524e4c26fabbffc4f1dfb2aa22c5f884c5c79b788aa93e67e71b81acc7f10c4a"), looks := true }, kinds := [], alts := [], laidByText := true, laidKinds := [.sentinel, .sentinel, .sentinel, .sentinel, .sentinel, .sentinel, .sentinel, .sentinel, .sentinel, .sentinel, .sentinel, .sentinel, .sentinel, .sentinel, .sentinel, .sentinel, .sentinel, .sentinel, .sentinel, .sentinel, .sentinel, .sentinel, .data, .data], laidTests := true, laidLooks := .later }
def PackEncodeCardSaid : Prop := Claim7.holds Tryz.pinned (.plain (OpenSpec.ofChange packEncodeSpec)) packEncodeCard

/-- THE SECOND FORM's CARD OF 'cartagelaw08.PackEncode'. -/
def packEncodeUptoCard : Claim7 := { stood := { row := packEncodeUptoRow, standIns := [], harness := (true, "524e4c26fabbffc4f1dfb2aa22c5f884c5c79b788aa93e67e71b81acc7f10c4a"), looks := true }, kinds := [], alts := [], laidByText := true, laidKinds := [.sentinel, .sentinel, .sentinel, .sentinel, .sentinel, .sentinel, .sentinel, .sentinel, .sentinel, .sentinel, .sentinel, .sentinel, .sentinel, .sentinel, .sentinel, .sentinel, .sentinel, .sentinel, .sentinel, .sentinel, .sentinel, .sentinel, .data, .data], laidTests := true, laidLooks := .later }
def PackEncodeUptoCardSaid : Prop := Claim7.holds Tryz.pinned (.plain (OpenSpec.upto packEncodeSpec)) packEncodeUptoCard
end Rows
end Go.Proofs.YtndgadjeeinedaaGreatDoor
