/-
  DERIVED. GIVEN WITH THE SEED: THE CARDS: each row of YtolfphfdeccleaaGreatDoorRows.lean that lists a variable, with what it lists TIED to the program's text (the seventh form; the later family's looks); each row that meets fmt, with fmt's text TOLD by the authors' own Lean function (tested against real Go, not proved from fmt's source: count such statements apart). THE CARD IS WHAT COUNTS. Prove the row's statement (the work); the ties are given (YtolfphfdeccleaaGreatDoorTie.lean); close each card by the builder's one call (the guide's Derived/Test/ToyasCard.lean, 'card_holds'). Laid BY PROGRAM, IN A SANDBOX (cutbox-door.mjs). By AI agents, Wed Nov 11 2026. No macro, syntax, notation, axiom, sorry.
-/
import Derived.Test.YtolfphfdeccleaaGreatDoorRows
import GoSem.ClaimSeven
namespace Go.Proofs.YtolfphfdeccleaaGreatDoor
namespace Rows

/-- THE TIED CARD OF 'cartagelaw08.PackDecode'. -/
def packDecodeCard : Claim7 := { stood := { row := packDecodeRow, standIns := [], harness := (true, "fbdfad5ad8d80fa24b9d07318b36e6a877e69adb840da8c3164c82787621c9a0"), looks := true }, kinds := [], alts := [], laidByText := true, laidKinds := [.sentinel, .sentinel, .sentinel, .sentinel, .sentinel, .sentinel, .sentinel, .sentinel, .sentinel, .sentinel, .sentinel, .sentinel, .sentinel, .sentinel, .sentinel, .sentinel, .sentinel, .sentinel, .sentinel, .sentinel, .sentinel, .sentinel, .data, .data], laidTests := true, laidLooks := .later }
def PackDecodeCardSaid : Prop := Claim7.holds Tryz.pinned (.plain (OpenSpec.ofChange packDecodeSpec)) packDecodeCard

/-- THE TIED CARD OF 'cartagelaw08.PackEncode'. -/
def packEncodeCard : Claim7 := { stood := { row := packEncodeRow, standIns := [], harness := (true, "fbdfad5ad8d80fa24b9d07318b36e6a877e69adb840da8c3164c82787621c9a0"), looks := true }, kinds := [], alts := [], laidByText := true, laidKinds := [.sentinel, .sentinel, .sentinel, .sentinel, .sentinel, .sentinel, .sentinel, .sentinel, .sentinel, .sentinel, .sentinel, .sentinel, .sentinel, .sentinel, .sentinel, .sentinel, .sentinel, .sentinel, .sentinel, .sentinel, .sentinel, .sentinel, .data, .data], laidTests := true, laidLooks := .later }
def PackEncodeCardSaid : Prop := Claim7.holds Tryz.pinned (.plain (OpenSpec.ofChange packEncodeSpec)) packEncodeCard

/-- THE SECOND FORM's CARD OF 'cartagelaw08.PackDecode'. -/
def packDecodeUptoCard : Claim7 := { stood := { row := packDecodeUptoRow, standIns := [], harness := (true, "fbdfad5ad8d80fa24b9d07318b36e6a877e69adb840da8c3164c82787621c9a0"), looks := true }, kinds := [], alts := [], laidByText := true, laidKinds := [.sentinel, .sentinel, .sentinel, .sentinel, .sentinel, .sentinel, .sentinel, .sentinel, .sentinel, .sentinel, .sentinel, .sentinel, .sentinel, .sentinel, .sentinel, .sentinel, .sentinel, .sentinel, .sentinel, .sentinel, .sentinel, .sentinel, .data, .data], laidTests := true, laidLooks := .later }
def PackDecodeUptoCardSaid : Prop := Claim7.holds Tryz.pinned (.plain (OpenSpec.upto packDecodeSpec)) packDecodeUptoCard

/-- THE SECOND FORM's CARD OF 'cartagelaw08.PackEncode'. -/
def packEncodeUptoCard : Claim7 := { stood := { row := packEncodeUptoRow, standIns := [], harness := (true, "fbdfad5ad8d80fa24b9d07318b36e6a877e69adb840da8c3164c82787621c9a0"), looks := true }, kinds := [], alts := [], laidByText := true, laidKinds := [.sentinel, .sentinel, .sentinel, .sentinel, .sentinel, .sentinel, .sentinel, .sentinel, .sentinel, .sentinel, .sentinel, .sentinel, .sentinel, .sentinel, .sentinel, .sentinel, .sentinel, .sentinel, .sentinel, .sentinel, .sentinel, .sentinel, .data, .data], laidTests := true, laidLooks := .later }
def PackEncodeUptoCardSaid : Prop := Claim7.holds Tryz.pinned (.plain (OpenSpec.upto packEncodeSpec)) packEncodeUptoCard
end Rows
end Go.Proofs.YtolfphfdeccleaaGreatDoor
