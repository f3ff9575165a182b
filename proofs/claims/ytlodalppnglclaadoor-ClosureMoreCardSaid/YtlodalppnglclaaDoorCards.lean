/-
  DERIVED. GIVEN WITH THE SEED: THE CARDS: each row of YtlodalppnglclaaDoorRows.lean that lists a variable, with what it lists TIED to the program's text (the seventh form; the later family's looks); each row that meets fmt, with fmt's text TOLD by the authors' own Lean function (tested against real Go, not proved from fmt's source: count such statements apart). THE CARD IS WHAT COUNTS. Prove the row's statement (the work); the ties are given (YtlodalppnglclaaDoorTie.lean); close each card by the builder's one call (the guide's Derived/Test/ToyasCard.lean, 'card_holds'). Laid BY PROGRAM, IN A SANDBOX (cutbox-door.mjs). By AI agents, Wed Nov 11 2026. No macro, syntax, notation, axiom, sorry.
-/
import Derived.Test.YtlodalppnglclaaDoorRows
import GoSem.ClaimSeven
namespace Go.Proofs.YtlodalppnglclaaDoor
namespace Rows

/-- THE TIED CARD OF 'cartagelaw09.ClosureWalks'. -/
def closureWalksCard : Claim7 := { stood := { row := closureWalksRow, standIns := [], harness := (true, "e9f7a8bc43ae9b78ffca4da5e74372920aa0471f6f617932fa24609f2115433b"), looks := true }, kinds := [], alts := [], laidByText := true, laidKinds := [.sentinel, .sentinel, .sentinel, .sentinel, .sentinel, .sentinel, .data, .data], laidTests := true, laidLooks := .later }
def ClosureWalksCardSaid : Prop := Claim7.holds Tryd.pinned (.plain (OpenSpec.ofChange closureWalksSpec)) closureWalksCard

/-- THE TIED CARD OF 'cartagelaw09.ClosureMore'. -/
def closureMoreCard : Claim7 := { stood := { row := closureMoreRow, standIns := [], harness := (true, "e9f7a8bc43ae9b78ffca4da5e74372920aa0471f6f617932fa24609f2115433b"), looks := true }, kinds := [], alts := [], laidByText := true, laidKinds := [.sentinel, .sentinel, .sentinel, .sentinel, .sentinel, .sentinel, .data, .data], laidTests := true, laidLooks := .later }
def ClosureMoreCardSaid : Prop := Claim7.holds Tryd.pinned (.plain (OpenSpec.ofChange closureMoreSpec)) closureMoreCard

/-- THE TIED CARD OF 'cartagelaw09.ClosureParts'. -/
def closurePartsCard : Claim7 := { stood := { row := closurePartsRow, standIns := [], harness := (true, "e9f7a8bc43ae9b78ffca4da5e74372920aa0471f6f617932fa24609f2115433b"), looks := true }, kinds := [], alts := [], laidByText := true, laidKinds := [.sentinel, .sentinel, .sentinel, .sentinel, .sentinel, .sentinel, .data, .data], laidTests := true, laidLooks := .later }
def ClosurePartsCardSaid : Prop := Claim7.holds Tryd.pinned (.plain (OpenSpec.ofChange closurePartsSpec)) closurePartsCard

/-- THE SECOND FORM's CARD OF 'cartagelaw09.ClosureWalks'. -/
def closureWalksUptoCard : Claim7 := { stood := { row := closureWalksUptoRow, standIns := [], harness := (true, "e9f7a8bc43ae9b78ffca4da5e74372920aa0471f6f617932fa24609f2115433b"), looks := true }, kinds := [], alts := [], laidByText := true, laidKinds := [.sentinel, .sentinel, .sentinel, .sentinel, .sentinel, .sentinel, .data, .data], laidTests := true, laidLooks := .later }
def ClosureWalksUptoCardSaid : Prop := Claim7.holds Tryd.pinned (.plain (OpenSpec.upto closureWalksSpec)) closureWalksUptoCard

/-- THE SECOND FORM's CARD OF 'cartagelaw09.ClosureMore'. -/
def closureMoreUptoCard : Claim7 := { stood := { row := closureMoreUptoRow, standIns := [], harness := (true, "e9f7a8bc43ae9b78ffca4da5e74372920aa0471f6f617932fa24609f2115433b"), looks := true }, kinds := [], alts := [], laidByText := true, laidKinds := [.sentinel, .sentinel, .sentinel, .sentinel, .sentinel, .sentinel, .data, .data], laidTests := true, laidLooks := .later }
def ClosureMoreUptoCardSaid : Prop := Claim7.holds Tryd.pinned (.plain (OpenSpec.upto closureMoreSpec)) closureMoreUptoCard

/-- THE SECOND FORM's CARD OF 'cartagelaw09.ClosureParts'. -/
def closurePartsUptoCard : Claim7 := { stood := { row := closurePartsUptoRow, standIns := [], harness := (true, "e9f7a8bc43ae9b78ffca4da5e74372920aa0471f6f617932fa24609f2115433b"), looks := true }, kinds := [], alts := [], laidByText := true, laidKinds := [.sentinel, .sentinel, .sentinel, .sentinel, .sentinel, .sentinel, .data, .data], laidTests := true, laidLooks := .later }
def ClosurePartsUptoCardSaid : Prop := Claim7.holds Tryd.pinned (.plain (OpenSpec.upto closurePartsSpec)) closurePartsUptoCard
end Rows
end Go.Proofs.YtlodalppnglclaaDoor
