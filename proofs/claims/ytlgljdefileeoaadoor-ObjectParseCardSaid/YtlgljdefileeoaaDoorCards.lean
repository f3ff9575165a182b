/-
  DERIVED. GIVEN WITH THE SEED: THE CARDS: each row of YtlgljdefileeoaaDoorRows.lean that lists a variable, with what it lists TIED to the program's text (the seventh form; the later family's looks); each row that meets fmt, with fmt's text TOLD by the authors' own Lean function (tested against real Go, not proved from fmt's source: count such statements apart). THE CARD IS WHAT COUNTS. Prove the row's statement (the work); the ties are given (YtlgljdefileeoaaDoorTie.lean); close each card by the builder's one call (the guide's Derived/Test/ToyasCard.lean, 'card_holds'). Laid BY PROGRAM, IN A SANDBOX (cutbox-door.mjs). By AI agents, Wed Nov 11 2026. No macro, syntax, notation, axiom, sorry.
-/
import Derived.Test.YtlgljdefileeoaaDoorRows
import GoSem.ClaimSeven
namespace Go.Proofs.YtlgljdefileeoaaDoor
namespace Rows

/-- THE TIED CARD OF 'cartagelaw06.ObjectParse'. -/
def objectParseCard : Claim7 := { stood := { row := objectParseRow, standIns := [], harness := (true, "949d679afd11eb47d3826bad34971fc4d2ca06a7139ba6e37c8480d0df5aa3ab"), looks := true }, kinds := [], alts := [], laidByText := true, laidKinds := [.sentinel, .sentinel, .sentinel, .sentinel, .sentinel, .sentinel, .sentinel, .sentinel, .sentinel, .sentinel, .sentinel, .sentinel, .sentinel, .sentinel, .sentinel, .sentinel, .sentinel, .sentinel, .sentinel, .sentinel, .sentinel, .sentinel], laidTests := true, laidLooks := .later }
def ObjectParseCardSaid : Prop := Claim7.holds Tryd.pinned (.plain (OpenSpec.ofChange objectParseSpec)) objectParseCard

/-- THE TIED CARD OF 'cartagelaw06.ObjectLinks'. -/
def objectLinksCard : Claim7 := { stood := { row := objectLinksRow, standIns := [], harness := (true, "949d679afd11eb47d3826bad34971fc4d2ca06a7139ba6e37c8480d0df5aa3ab"), looks := true }, kinds := [], alts := [], laidByText := true, laidKinds := [.sentinel, .sentinel, .sentinel, .sentinel, .sentinel, .sentinel, .data, .data], laidTests := true, laidLooks := .later }
def ObjectLinksCardSaid : Prop := Claim7.holds Tryd.pinned (.plain (OpenSpec.ofChange objectLinksSpec)) objectLinksCard

/-- THE SECOND FORM's CARD OF 'cartagelaw06.ObjectParse'. -/
def objectParseUptoCard : Claim7 := { stood := { row := objectParseUptoRow, standIns := [], harness := (true, "949d679afd11eb47d3826bad34971fc4d2ca06a7139ba6e37c8480d0df5aa3ab"), looks := true }, kinds := [], alts := [], laidByText := true, laidKinds := [.sentinel, .sentinel, .sentinel, .sentinel, .sentinel, .sentinel, .sentinel, .sentinel, .sentinel, .sentinel, .sentinel, .sentinel, .sentinel, .sentinel, .sentinel, .sentinel, .sentinel, .sentinel, .sentinel, .sentinel, .sentinel, .sentinel], laidTests := true, laidLooks := .later }
def ObjectParseUptoCardSaid : Prop := Claim7.holds Tryd.pinned (.plain (OpenSpec.upto objectParseSpec)) objectParseUptoCard

/-- THE SECOND FORM's CARD OF 'cartagelaw06.ObjectLinks'. -/
def objectLinksUptoCard : Claim7 := { stood := { row := objectLinksUptoRow, standIns := [], harness := (true, "949d679afd11eb47d3826bad34971fc4d2ca06a7139ba6e37c8480d0df5aa3ab"), looks := true }, kinds := [], alts := [], laidByText := true, laidKinds := [.sentinel, .sentinel, .sentinel, .sentinel, .sentinel, .sentinel, .data, .data], laidTests := true, laidLooks := .later }
def ObjectLinksUptoCardSaid : Prop := Claim7.holds Tryd.pinned (.plain (OpenSpec.upto objectLinksSpec)) objectLinksUptoCard
end Rows
end Go.Proofs.YtlgljdefileeoaaDoor
