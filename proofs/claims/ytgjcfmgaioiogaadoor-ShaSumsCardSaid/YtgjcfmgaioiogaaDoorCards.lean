/-
  DERIVED. GIVEN WITH THE SEED: THE CARDS: each row of YtgjcfmgaioiogaaDoorRows.lean that lists a variable, with what it lists TIED to the program's text (the seventh form; the later family's looks); each row that meets fmt, with fmt's text TOLD by the authors' own Lean function (tested against real Go, not proved from fmt's source: count such statements apart). THE CARD IS WHAT COUNTS. Prove the row's statement (the work); the ties are given (YtgjcfmgaioiogaaDoorTie.lean); close each card by the builder's one call (the guide's Derived/Test/ToyasCard.lean, 'card_holds'). Laid BY PROGRAM, IN A SANDBOX (cutbox-door.mjs). By AI agents, Wed Nov 11 2026. No macro, syntax, notation, axiom, sorry.
-/
import Derived.Test.YtgjcfmgaioiogaaDoorRows
import GoSem.ClaimSeven
namespace Go.Proofs.YtgjcfmgaioiogaaDoor
namespace Rows

/-- THE TIED CARD OF 'cartagelaw01.ShaSums'. -/
def shaSumsCard : Claim7 := { stood := { row := shaSumsRow, standIns := [], harness := (true, "81109238e25dfdfebd6a3ca07165911fcd9e7648a542061efad7a7cd4b29f491"), looks := true }, kinds := [], alts := [], laidByText := true, laidKinds := [.data, .data], laidTests := true, laidLooks := .later }
def ShaSumsCardSaid : Prop := Claim7.holds Tryd.pinned (.plain (OpenSpec.ofChange shaSumsSpec)) shaSumsCard

/-- THE TIED CARD OF 'cartagelaw02.OctetsWrite'. -/
def octetsWriteCard : Claim7 := { stood := { row := octetsWriteRow, standIns := [], harness := (true, "81109238e25dfdfebd6a3ca07165911fcd9e7648a542061efad7a7cd4b29f491"), looks := true }, kinds := [], alts := [], laidByText := true, laidKinds := [.sentinel, .sentinel, .sentinel, .sentinel, .sentinel, .sentinel, .sentinel, .sentinel, .sentinel, .sentinel, .sentinel, .sentinel, .sentinel, .sentinel, .sentinel, .sentinel, .sentinel, .sentinel, .sentinel, .sentinel, .sentinel, .sentinel], laidTests := true, laidLooks := .later }
def OctetsWriteCardSaid : Prop := Claim7.holds Tryd.pinned (.plain (OpenSpec.ofChange octetsWriteSpec)) octetsWriteCard

/-- THE TIED CARD OF 'cartagelaw02.OctetsOne'. -/
def octetsOneCard : Claim7 := { stood := { row := octetsOneRow, standIns := [], harness := (true, "81109238e25dfdfebd6a3ca07165911fcd9e7648a542061efad7a7cd4b29f491"), looks := true }, kinds := [], alts := [], laidByText := true, laidKinds := [.sentinel, .sentinel, .sentinel, .sentinel, .sentinel], laidTests := true, laidLooks := .later }
def OctetsOneCardSaid : Prop := Claim7.holds Tryd.pinned (.plain (OpenSpec.ofChange octetsOneSpec)) octetsOneCard

/-- THE TIED CARD OF 'cartagelaw02.OctetsTake'. -/
def octetsTakeCard : Claim7 := { stood := { row := octetsTakeRow, standIns := [], harness := (true, "81109238e25dfdfebd6a3ca07165911fcd9e7648a542061efad7a7cd4b29f491"), looks := true }, kinds := [], alts := [], laidByText := true, laidKinds := [.sentinel, .sentinel, .sentinel, .sentinel, .sentinel, .sentinel, .sentinel, .sentinel, .sentinel, .sentinel, .sentinel, .sentinel, .sentinel, .sentinel, .sentinel, .sentinel, .sentinel, .sentinel, .sentinel, .sentinel, .sentinel, .sentinel], laidTests := true, laidLooks := .later }
def OctetsTakeCardSaid : Prop := Claim7.holds Tryd.pinned (.plain (OpenSpec.ofChange octetsTakeSpec)) octetsTakeCard

/-- THE SECOND FORM's CARD OF 'cartagelaw01.ShaSums'. -/
def shaSumsUptoCard : Claim7 := { stood := { row := shaSumsUptoRow, standIns := [], harness := (true, "81109238e25dfdfebd6a3ca07165911fcd9e7648a542061efad7a7cd4b29f491"), looks := true }, kinds := [], alts := [], laidByText := true, laidKinds := [.data, .data], laidTests := true, laidLooks := .later }
def ShaSumsUptoCardSaid : Prop := Claim7.holds Tryd.pinned (.plain (OpenSpec.upto shaSumsSpec)) shaSumsUptoCard

/-- THE SECOND FORM's CARD OF 'cartagelaw02.OctetsWrite'. -/
def octetsWriteUptoCard : Claim7 := { stood := { row := octetsWriteUptoRow, standIns := [], harness := (true, "81109238e25dfdfebd6a3ca07165911fcd9e7648a542061efad7a7cd4b29f491"), looks := true }, kinds := [], alts := [], laidByText := true, laidKinds := [.sentinel, .sentinel, .sentinel, .sentinel, .sentinel, .sentinel, .sentinel, .sentinel, .sentinel, .sentinel, .sentinel, .sentinel, .sentinel, .sentinel, .sentinel, .sentinel, .sentinel, .sentinel, .sentinel, .sentinel, .sentinel, .sentinel], laidTests := true, laidLooks := .later }
def OctetsWriteUptoCardSaid : Prop := Claim7.holds Tryd.pinned (.plain (OpenSpec.upto octetsWriteSpec)) octetsWriteUptoCard

/-- THE SECOND FORM's CARD OF 'cartagelaw02.OctetsOne'. -/
def octetsOneUptoCard : Claim7 := { stood := { row := octetsOneUptoRow, standIns := [], harness := (true, "81109238e25dfdfebd6a3ca07165911fcd9e7648a542061efad7a7cd4b29f491"), looks := true }, kinds := [], alts := [], laidByText := true, laidKinds := [.sentinel, .sentinel, .sentinel, .sentinel, .sentinel], laidTests := true, laidLooks := .later }
def OctetsOneUptoCardSaid : Prop := Claim7.holds Tryd.pinned (.plain (OpenSpec.upto octetsOneSpec)) octetsOneUptoCard

/-- THE SECOND FORM's CARD OF 'cartagelaw02.OctetsTake'. -/
def octetsTakeUptoCard : Claim7 := { stood := { row := octetsTakeUptoRow, standIns := [], harness := (true, "81109238e25dfdfebd6a3ca07165911fcd9e7648a542061efad7a7cd4b29f491"), looks := true }, kinds := [], alts := [], laidByText := true, laidKinds := [.sentinel, .sentinel, .sentinel, .sentinel, .sentinel, .sentinel, .sentinel, .sentinel, .sentinel, .sentinel, .sentinel, .sentinel, .sentinel, .sentinel, .sentinel, .sentinel, .sentinel, .sentinel, .sentinel, .sentinel, .sentinel, .sentinel], laidTests := true, laidLooks := .later }
def OctetsTakeUptoCardSaid : Prop := Claim7.holds Tryd.pinned (.plain (OpenSpec.upto octetsTakeSpec)) octetsTakeUptoCard
end Rows
end Go.Proofs.YtgjcfmgaioiogaaDoor
