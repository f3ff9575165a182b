/-
  DERIVED. GIVEN WITH THE SEED: THE CARDS: each row of YthagldpgibpbdaaDoorRows.lean that lists a variable, with what it lists TIED to the program's text (the seventh form; the later family's looks); each row that meets fmt, with fmt's text TOLD by the authors' own Lean function (tested against real Go, not proved from fmt's source: count such statements apart). THE CARD IS WHAT COUNTS. Prove the row's statement (the work); the ties are given (YthagldpgibpbdaaDoorTie.lean); close each card by the builder's one call (the guide's Derived/Test/ToyasCard.lean, 'card_holds'). Laid BY PROGRAM, IN A SANDBOX (cutbox-door.mjs). By AI agents, Wed Nov 11 2026. No macro, syntax, notation, axiom, sorry.
-/
import Derived.Test.YthagldpgibpbdaaDoorRows
import GoSem.ClaimSeven
namespace Go.Proofs.YthagldpgibpbdaaDoor
namespace Rows

/-- THE TIED CARD OF 'cartagelaw07.DeltaApply'. -/
def deltaApplyCard : Claim7 := { stood := { row := deltaApplyRow, standIns := [], harness := (true, "738c5100c2a9c2bec369a9804ee9dcbffb310e38da4dc0709e8f6306488b5650"), looks := true }, kinds := [], alts := [], laidByText := true, laidKinds := [.sentinel, .sentinel, .sentinel, .sentinel, .sentinel, .sentinel, .sentinel, .sentinel, .sentinel, .sentinel, .sentinel, .sentinel, .sentinel, .sentinel, .sentinel, .sentinel, .sentinel, .sentinel, .sentinel, .sentinel, .sentinel, .sentinel], laidTests := true, laidLooks := .later }
def DeltaApplyCardSaid : Prop := Claim7.holds Tryd.pinned (.plain (OpenSpec.ofChange deltaApplySpec)) deltaApplyCard

/-- THE TIED CARD OF 'cartagelaw07.DeltaMake'. -/
def deltaMakeCard : Claim7 := { stood := { row := deltaMakeRow, standIns := [], harness := (true, "738c5100c2a9c2bec369a9804ee9dcbffb310e38da4dc0709e8f6306488b5650"), looks := true }, kinds := [], alts := [], laidByText := true, laidKinds := [.sentinel, .sentinel, .sentinel, .sentinel, .sentinel, .sentinel, .sentinel, .sentinel, .sentinel, .sentinel, .sentinel, .sentinel, .sentinel, .sentinel, .sentinel, .sentinel, .sentinel, .sentinel, .sentinel, .sentinel, .sentinel, .sentinel], laidTests := true, laidLooks := .later }
def DeltaMakeCardSaid : Prop := Claim7.holds Tryd.pinned (.plain (OpenSpec.ofChange deltaMakeSpec)) deltaMakeCard

/-- THE TIED CARD OF 'cartagelaw07.DeltaShort'. -/
def deltaShortCard : Claim7 := { stood := { row := deltaShortRow, standIns := [], harness := (true, "738c5100c2a9c2bec369a9804ee9dcbffb310e38da4dc0709e8f6306488b5650"), looks := true }, kinds := [], alts := [], laidByText := true, laidKinds := [.sentinel, .sentinel, .sentinel], laidTests := true, laidLooks := .later }
def DeltaShortCardSaid : Prop := Claim7.holds Tryd.pinned (.plain (OpenSpec.ofChange deltaShortSpec)) deltaShortCard

/-- THE TIED CARD OF 'cartagelaw07.DeltaChain'. -/
def deltaChainCard : Claim7 := { stood := { row := deltaChainRow, standIns := [], harness := (true, "738c5100c2a9c2bec369a9804ee9dcbffb310e38da4dc0709e8f6306488b5650"), looks := true }, kinds := [], alts := [], laidByText := true, laidKinds := [.sentinel, .sentinel, .sentinel, .sentinel, .sentinel, .sentinel], laidTests := true, laidLooks := .later }
def DeltaChainCardSaid : Prop := Claim7.holds Tryd.pinned (.plain (OpenSpec.ofChange deltaChainSpec)) deltaChainCard

/-- THE SECOND FORM's CARD OF 'cartagelaw07.DeltaApply'. -/
def deltaApplyUptoCard : Claim7 := { stood := { row := deltaApplyUptoRow, standIns := [], harness := (true, "738c5100c2a9c2bec369a9804ee9dcbffb310e38da4dc0709e8f6306488b5650"), looks := true }, kinds := [], alts := [], laidByText := true, laidKinds := [.sentinel, .sentinel, .sentinel, .sentinel, .sentinel, .sentinel, .sentinel, .sentinel, .sentinel, .sentinel, .sentinel, .sentinel, .sentinel, .sentinel, .sentinel, .sentinel, .sentinel, .sentinel, .sentinel, .sentinel, .sentinel, .sentinel], laidTests := true, laidLooks := .later }
def DeltaApplyUptoCardSaid : Prop := Claim7.holds Tryd.pinned (.plain (OpenSpec.upto deltaApplySpec)) deltaApplyUptoCard

/-- THE SECOND FORM's CARD OF 'cartagelaw07.DeltaMake'. -/
def deltaMakeUptoCard : Claim7 := { stood := { row := deltaMakeUptoRow, standIns := [], harness := (true, "738c5100c2a9c2bec369a9804ee9dcbffb310e38da4dc0709e8f6306488b5650"), looks := true }, kinds := [], alts := [], laidByText := true, laidKinds := [.sentinel, .sentinel, .sentinel, .sentinel, .sentinel, .sentinel, .sentinel, .sentinel, .sentinel, .sentinel, .sentinel, .sentinel, .sentinel, .sentinel, .sentinel, .sentinel, .sentinel, .sentinel, .sentinel, .sentinel, .sentinel, .sentinel], laidTests := true, laidLooks := .later }
def DeltaMakeUptoCardSaid : Prop := Claim7.holds Tryd.pinned (.plain (OpenSpec.upto deltaMakeSpec)) deltaMakeUptoCard

/-- THE SECOND FORM's CARD OF 'cartagelaw07.DeltaShort'. -/
def deltaShortUptoCard : Claim7 := { stood := { row := deltaShortUptoRow, standIns := [], harness := (true, "738c5100c2a9c2bec369a9804ee9dcbffb310e38da4dc0709e8f6306488b5650"), looks := true }, kinds := [], alts := [], laidByText := true, laidKinds := [.sentinel, .sentinel, .sentinel], laidTests := true, laidLooks := .later }
def DeltaShortUptoCardSaid : Prop := Claim7.holds Tryd.pinned (.plain (OpenSpec.upto deltaShortSpec)) deltaShortUptoCard

/-- THE SECOND FORM's CARD OF 'cartagelaw07.DeltaChain'. -/
def deltaChainUptoCard : Claim7 := { stood := { row := deltaChainUptoRow, standIns := [], harness := (true, "738c5100c2a9c2bec369a9804ee9dcbffb310e38da4dc0709e8f6306488b5650"), looks := true }, kinds := [], alts := [], laidByText := true, laidKinds := [.sentinel, .sentinel, .sentinel, .sentinel, .sentinel, .sentinel], laidTests := true, laidLooks := .later }
def DeltaChainUptoCardSaid : Prop := Claim7.holds Tryd.pinned (.plain (OpenSpec.upto deltaChainSpec)) deltaChainUptoCard
end Rows
end Go.Proofs.YthagldpgibpbdaaDoor
