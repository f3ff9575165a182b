/-
  DERIVED. GIVEN WITH THE SEED: THE CARDS: each row of YtedlfafbehhkdaaDoorRows.lean that lists a variable, with what it lists TIED to the program's text (the seventh form; the later family's looks); each row that meets fmt, with fmt's text TOLD by the authors' own Lean function (tested against real Go, not proved from fmt's source: count such statements apart). THE CARD IS WHAT COUNTS. Prove the row's statement (the work); the ties are given (YtedlfafbehhkdaaDoorTie.lean); close each card by the builder's one call (the guide's Derived/Test/ToyasCard.lean, 'card_holds'). Laid BY PROGRAM, IN A SANDBOX (cutbox-door.mjs). By AI agents, Wed Nov 11 2026. No macro, syntax, notation, axiom, sorry.
-/
import Derived.Test.YtedlfafbehhkdaaDoorRows
import GoSem.ClaimSeven
namespace Go.Proofs.YtedlfafbehhkdaaDoor
namespace Rows

/-- THE TIED CARD OF 'cartagelaw02.OctetsWrite'. -/
def octetsWriteCard : Claim7 := { stood := { row := octetsWriteRow, standIns := [], harness := (true, "351a0ef8f22a0ef5391f0f248f81a4fe6cd909fd4a8601ac69d74d89c4eafc71"), looks := true }, kinds := [], alts := [], laidByText := true, laidKinds := [.sentinel, .sentinel, .sentinel, .sentinel, .sentinel, .sentinel, .sentinel, .sentinel, .sentinel, .sentinel, .sentinel, .sentinel, .sentinel, .sentinel, .sentinel, .sentinel, .sentinel, .sentinel, .sentinel, .sentinel, .sentinel, .sentinel], laidTests := true, laidLooks := .later }
def OctetsWriteCardSaid : Prop := Claim7.holds Tryd.pinned (.plain (OpenSpec.ofChange octetsWriteSpec)) octetsWriteCard

/-- THE TIED CARD OF 'cartagelaw02.OctetsOne'. -/
def octetsOneCard : Claim7 := { stood := { row := octetsOneRow, standIns := [], harness := (true, "351a0ef8f22a0ef5391f0f248f81a4fe6cd909fd4a8601ac69d74d89c4eafc71"), looks := true }, kinds := [], alts := [], laidByText := true, laidKinds := [.sentinel, .sentinel, .sentinel, .sentinel, .sentinel], laidTests := true, laidLooks := .later }
def OctetsOneCardSaid : Prop := Claim7.holds Tryd.pinned (.plain (OpenSpec.ofChange octetsOneSpec)) octetsOneCard

/-- THE TIED CARD OF 'cartagelaw02.OctetsTake'. -/
def octetsTakeCard : Claim7 := { stood := { row := octetsTakeRow, standIns := [], harness := (true, "351a0ef8f22a0ef5391f0f248f81a4fe6cd909fd4a8601ac69d74d89c4eafc71"), looks := true }, kinds := [], alts := [], laidByText := true, laidKinds := [.sentinel, .sentinel, .sentinel, .sentinel, .sentinel, .sentinel, .sentinel, .sentinel, .sentinel, .sentinel, .sentinel, .sentinel, .sentinel, .sentinel, .sentinel, .sentinel, .sentinel, .sentinel, .sentinel, .sentinel, .sentinel, .sentinel], laidTests := true, laidLooks := .later }
def OctetsTakeCardSaid : Prop := Claim7.holds Tryd.pinned (.plain (OpenSpec.ofChange octetsTakeSpec)) octetsTakeCard

/-- THE SECOND FORM's CARD OF 'cartagelaw02.OctetsWrite'. -/
def octetsWriteUptoCard : Claim7 := { stood := { row := octetsWriteUptoRow, standIns := [], harness := (true, "351a0ef8f22a0ef5391f0f248f81a4fe6cd909fd4a8601ac69d74d89c4eafc71"), looks := true }, kinds := [], alts := [], laidByText := true, laidKinds := [.sentinel, .sentinel, .sentinel, .sentinel, .sentinel, .sentinel, .sentinel, .sentinel, .sentinel, .sentinel, .sentinel, .sentinel, .sentinel, .sentinel, .sentinel, .sentinel, .sentinel, .sentinel, .sentinel, .sentinel, .sentinel, .sentinel], laidTests := true, laidLooks := .later }
def OctetsWriteUptoCardSaid : Prop := Claim7.holds Tryd.pinned (.plain (OpenSpec.upto octetsWriteSpec)) octetsWriteUptoCard

/-- THE SECOND FORM's CARD OF 'cartagelaw02.OctetsOne'. -/
def octetsOneUptoCard : Claim7 := { stood := { row := octetsOneUptoRow, standIns := [], harness := (true, "351a0ef8f22a0ef5391f0f248f81a4fe6cd909fd4a8601ac69d74d89c4eafc71"), looks := true }, kinds := [], alts := [], laidByText := true, laidKinds := [.sentinel, .sentinel, .sentinel, .sentinel, .sentinel], laidTests := true, laidLooks := .later }
def OctetsOneUptoCardSaid : Prop := Claim7.holds Tryd.pinned (.plain (OpenSpec.upto octetsOneSpec)) octetsOneUptoCard

/-- THE SECOND FORM's CARD OF 'cartagelaw02.OctetsTake'. -/
def octetsTakeUptoCard : Claim7 := { stood := { row := octetsTakeUptoRow, standIns := [], harness := (true, "351a0ef8f22a0ef5391f0f248f81a4fe6cd909fd4a8601ac69d74d89c4eafc71"), looks := true }, kinds := [], alts := [], laidByText := true, laidKinds := [.sentinel, .sentinel, .sentinel, .sentinel, .sentinel, .sentinel, .sentinel, .sentinel, .sentinel, .sentinel, .sentinel, .sentinel, .sentinel, .sentinel, .sentinel, .sentinel, .sentinel, .sentinel, .sentinel, .sentinel, .sentinel, .sentinel], laidTests := true, laidLooks := .later }
def OctetsTakeUptoCardSaid : Prop := Claim7.holds Tryd.pinned (.plain (OpenSpec.upto octetsTakeSpec)) octetsTakeUptoCard
end Rows
end Go.Proofs.YtedlfafbehhkdaaDoor
