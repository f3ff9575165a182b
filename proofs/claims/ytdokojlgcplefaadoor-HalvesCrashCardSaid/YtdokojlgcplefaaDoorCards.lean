/-
  DERIVED. GIVEN WITH THE SEED: THE CARDS: each row of YtdokojlgcplefaaDoorRows.lean that lists a variable, with what it lists TIED to the program's text (the seventh form; the later family's looks); each row that meets fmt, with fmt's text TOLD by the authors' own Lean function (tested against real Go, not proved from fmt's source: count such statements apart). THE CARD IS WHAT COUNTS. Prove the row's statement (the work); the ties are given (YtdokojlgcplefaaDoorTie.lean); close each card by the builder's one call (the guide's Derived/Test/ToyasCard.lean, 'card_holds'). Laid BY PROGRAM, IN A SANDBOX (cutbox-door.mjs). By AI agents, Wed Nov 11 2026. No macro, syntax, notation, axiom, sorry.
-/
import Derived.Test.YtdokojlgcplefaaDoorRows
import GoSem.ClaimSeven
namespace Go.Proofs.YtdokojlgcplefaaDoor
namespace Rows

/-- THE TIED CARD OF 'cartagelaw05.HalvesCrash'. -/
def halvesCrashCard : Claim7 := { stood := { row := halvesCrashRow, standIns := [], harness := (true, "54c93023bc4000e91dc4cd38855d650ca57a48ec3dc96e2bd4bc21f39e7354e1"), looks := true }, kinds := [], alts := [], laidByText := true, laidKinds := [.sentinel, .sentinel, .sentinel, .sentinel, .sentinel, .sentinel, .sentinel, .sentinel, .data, .data], laidTests := true, laidLooks := .later }
def HalvesCrashCardSaid : Prop := Claim7.holds Tryd.pinned (.plain (OpenSpec.ofChange halvesCrashSpec)) halvesCrashCard

/-- THE SECOND FORM's CARD OF 'cartagelaw05.HalvesCrash'. -/
def halvesCrashUptoCard : Claim7 := { stood := { row := halvesCrashUptoRow, standIns := [], harness := (true, "54c93023bc4000e91dc4cd38855d650ca57a48ec3dc96e2bd4bc21f39e7354e1"), looks := true }, kinds := [], alts := [], laidByText := true, laidKinds := [.sentinel, .sentinel, .sentinel, .sentinel, .sentinel, .sentinel, .sentinel, .sentinel, .data, .data], laidTests := true, laidLooks := .later }
def HalvesCrashUptoCardSaid : Prop := Claim7.holds Tryd.pinned (.plain (OpenSpec.upto halvesCrashSpec)) halvesCrashUptoCard
end Rows
end Go.Proofs.YtdokojlgcplefaaDoor
