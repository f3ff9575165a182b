/-
  DERIVED. GIVEN WITH THE SEED: THE CARDS: each row of YtcnedkgadfegbaaDoorRows.lean that lists a variable, with what it lists TIED to the program's text (the seventh form; the later family's looks); each row that meets fmt, with fmt's text TOLD by the authors' own Lean function (tested against real Go, not proved from fmt's source: count such statements apart). THE CARD IS WHAT COUNTS. Prove the row's statement (the work); the ties are given (YtcnedkgadfegbaaDoorTie.lean); close each card by the builder's one call (the guide's Derived/Test/ToyasCard.lean, 'card_holds'). Laid BY PROGRAM, IN A SANDBOX (cutbox-door.mjs). By AI agents, Wed Nov 11 2026. No macro, syntax, notation, axiom, sorry.
-/
import Derived.Test.YtcnedkgadfegbaaDoorRows
import GoSem.ClaimSeven
namespace Go.Proofs.YtcnedkgadfegbaaDoor
namespace Rows

/-- THE TIED CARD OF 'cartagelaw08.PackKnown'. -/
def packKnownCard : Claim7 := { stood := { row := packKnownRow, standIns := [], harness := (true, "00d5a33fc0c437aeb2da01dfd2887e172f339f1036c0b14c72ff93bbc4ad7dc7"), looks := true }, kinds := [], alts := [], laidByText := true, laidKinds := [.sentinel, .sentinel, .sentinel, .sentinel, .sentinel, .sentinel, .sentinel, .sentinel, .sentinel, .sentinel, .sentinel, .data, .data], laidTests := true, laidLooks := .later }
def PackKnownCardSaid : Prop := Claim7.holds Tryd.pinned (.plain (OpenSpec.ofChange packKnownSpec)) packKnownCard

/-- THE TIED CARD OF 'cartagelaw08.PackThin'. -/
def packThinCard : Claim7 := { stood := { row := packThinRow, standIns := [], harness := (true, "00d5a33fc0c437aeb2da01dfd2887e172f339f1036c0b14c72ff93bbc4ad7dc7"), looks := true }, kinds := [], alts := [], laidByText := true, laidKinds := [.sentinel, .sentinel, .sentinel, .sentinel, .sentinel, .sentinel, .sentinel, .sentinel, .sentinel, .sentinel, .sentinel, .data, .data], laidTests := true, laidLooks := .later }
def PackThinCardSaid : Prop := Claim7.holds Tryd.pinned (.plain (OpenSpec.ofChange packThinSpec)) packThinCard

/-- THE SECOND FORM's CARD OF 'cartagelaw08.PackKnown'. -/
def packKnownUptoCard : Claim7 := { stood := { row := packKnownUptoRow, standIns := [], harness := (true, "00d5a33fc0c437aeb2da01dfd2887e172f339f1036c0b14c72ff93bbc4ad7dc7"), looks := true }, kinds := [], alts := [], laidByText := true, laidKinds := [.sentinel, .sentinel, .sentinel, .sentinel, .sentinel, .sentinel, .sentinel, .sentinel, .sentinel, .sentinel, .sentinel, .data, .data], laidTests := true, laidLooks := .later }
def PackKnownUptoCardSaid : Prop := Claim7.holds Tryd.pinned (.plain (OpenSpec.upto packKnownSpec)) packKnownUptoCard

/-- THE SECOND FORM's CARD OF 'cartagelaw08.PackThin'. -/
def packThinUptoCard : Claim7 := { stood := { row := packThinUptoRow, standIns := [], harness := (true, "00d5a33fc0c437aeb2da01dfd2887e172f339f1036c0b14c72ff93bbc4ad7dc7"), looks := true }, kinds := [], alts := [], laidByText := true, laidKinds := [.sentinel, .sentinel, .sentinel, .sentinel, .sentinel, .sentinel, .sentinel, .sentinel, .sentinel, .sentinel, .sentinel, .data, .data], laidTests := true, laidLooks := .later }
def PackThinUptoCardSaid : Prop := Claim7.holds Tryd.pinned (.plain (OpenSpec.upto packThinSpec)) packThinUptoCard
end Rows
end Go.Proofs.YtcnedkgadfegbaaDoor
