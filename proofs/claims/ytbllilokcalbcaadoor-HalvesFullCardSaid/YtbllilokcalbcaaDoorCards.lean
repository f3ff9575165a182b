/-
  DERIVED. GIVEN WITH THE SEED: THE CARDS: each row of YtbllilokcalbcaaDoorRows.lean that lists a variable, with what it lists TIED to the program's text (the seventh form; the later family's looks); each row that meets fmt, with fmt's text TOLD by the authors' own Lean function (tested against real Go, not proved from fmt's source: count such statements apart). THE CARD IS WHAT COUNTS. Prove the row's statement (the work); the ties are given (YtbllilokcalbcaaDoorTie.lean); close each card by the builder's one call (the guide's Derived/Test/ToyasCard.lean, 'card_holds'). Laid BY PROGRAM, IN A SANDBOX (cutbox-door.mjs). By AI agents, Wed Nov 11 2026. No macro, syntax, notation, axiom, sorry.
-/
import Derived.Test.YtbllilokcalbcaaDoorRows
import GoSem.ClaimSeven
namespace Go.Proofs.YtbllilokcalbcaaDoor
namespace Rows

/-- THE TIED CARD OF 'cartagelaw05.HalvesCrash'. -/
def halvesCrashCard : Claim7 := { stood := { row := halvesCrashRow, standIns := [], harness := (true, "25b590523fcbe0dbdad190cf526301724a19c638ff194da7b6f3697fd0130849"), looks := true }, kinds := [], alts := [], laidByText := true, laidKinds := [.sentinel, .sentinel, .sentinel, .sentinel, .sentinel, .sentinel, .sentinel, .sentinel, .data, .data], laidTests := true, laidLooks := .later }
def HalvesCrashCardSaid : Prop := Claim7.holds Tryd.pinned (.plain (OpenSpec.ofChange halvesCrashSpec)) halvesCrashCard

/-- THE TIED CARD OF 'cartagelaw05.HalvesNeed'. -/
def halvesNeedCard : Claim7 := { stood := { row := halvesNeedRow, standIns := [], harness := (true, "25b590523fcbe0dbdad190cf526301724a19c638ff194da7b6f3697fd0130849"), looks := true }, kinds := [], alts := [], laidByText := true, laidKinds := [.sentinel, .sentinel, .sentinel, .sentinel, .sentinel, .sentinel, .sentinel, .sentinel, .data, .data], laidTests := true, laidLooks := .later }
def HalvesNeedCardSaid : Prop := Claim7.holds Tryd.pinned (.plain (OpenSpec.ofChange halvesNeedSpec)) halvesNeedCard

/-- THE TIED CARD OF 'cartagelaw05.HalvesFull'. -/
def halvesFullCard : Claim7 := { stood := { row := halvesFullRow, standIns := [], harness := (true, "25b590523fcbe0dbdad190cf526301724a19c638ff194da7b6f3697fd0130849"), looks := true }, kinds := [], alts := [], laidByText := true, laidKinds := [.sentinel, .sentinel, .sentinel, .sentinel, .sentinel, .sentinel, .sentinel, .sentinel, .sentinel, .sentinel, .sentinel, .sentinel, .sentinel, .sentinel, .sentinel, .sentinel, .sentinel, .sentinel, .sentinel, .sentinel, .sentinel, .sentinel, .data, .data], laidTests := true, laidLooks := .later }
def HalvesFullCardSaid : Prop := Claim7.holds Tryd.pinned (.plain (OpenSpec.ofChange halvesFullSpec)) halvesFullCard

/-- THE SECOND FORM's CARD OF 'cartagelaw05.HalvesCrash'. -/
def halvesCrashUptoCard : Claim7 := { stood := { row := halvesCrashUptoRow, standIns := [], harness := (true, "25b590523fcbe0dbdad190cf526301724a19c638ff194da7b6f3697fd0130849"), looks := true }, kinds := [], alts := [], laidByText := true, laidKinds := [.sentinel, .sentinel, .sentinel, .sentinel, .sentinel, .sentinel, .sentinel, .sentinel, .data, .data], laidTests := true, laidLooks := .later }
def HalvesCrashUptoCardSaid : Prop := Claim7.holds Tryd.pinned (.plain (OpenSpec.upto halvesCrashSpec)) halvesCrashUptoCard

/-- THE SECOND FORM's CARD OF 'cartagelaw05.HalvesNeed'. -/
def halvesNeedUptoCard : Claim7 := { stood := { row := halvesNeedUptoRow, standIns := [], harness := (true, "25b590523fcbe0dbdad190cf526301724a19c638ff194da7b6f3697fd0130849"), looks := true }, kinds := [], alts := [], laidByText := true, laidKinds := [.sentinel, .sentinel, .sentinel, .sentinel, .sentinel, .sentinel, .sentinel, .sentinel, .data, .data], laidTests := true, laidLooks := .later }
def HalvesNeedUptoCardSaid : Prop := Claim7.holds Tryd.pinned (.plain (OpenSpec.upto halvesNeedSpec)) halvesNeedUptoCard

/-- THE SECOND FORM's CARD OF 'cartagelaw05.HalvesFull'. -/
def halvesFullUptoCard : Claim7 := { stood := { row := halvesFullUptoRow, standIns := [], harness := (true, "25b590523fcbe0dbdad190cf526301724a19c638ff194da7b6f3697fd0130849"), looks := true }, kinds := [], alts := [], laidByText := true, laidKinds := [.sentinel, .sentinel, .sentinel, .sentinel, .sentinel, .sentinel, .sentinel, .sentinel, .sentinel, .sentinel, .sentinel, .sentinel, .sentinel, .sentinel, .sentinel, .sentinel, .sentinel, .sentinel, .sentinel, .sentinel, .sentinel, .sentinel, .data, .data], laidTests := true, laidLooks := .later }
def HalvesFullUptoCardSaid : Prop := Claim7.holds Tryd.pinned (.plain (OpenSpec.upto halvesFullSpec)) halvesFullUptoCard
end Rows
end Go.Proofs.YtbllilokcalbcaaDoor
