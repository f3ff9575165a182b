/-
  DERIVED. GIVEN WITH THE SEED: THE CARDS: each row of YtagplmlhpocbjaaDoorRows.lean that lists a variable, with what it lists TIED to the program's text (the seventh form; the later family's looks); each row that meets fmt, with fmt's text TOLD by the authors' own Lean function (tested against real Go, not proved from fmt's source: count such statements apart). THE CARD IS WHAT COUNTS. Prove the row's statement (the work); the ties are given (YtagplmlhpocbjaaDoorTie.lean); close each card by the builder's one call (the guide's Derived/Test/ToyasCard.lean, 'card_holds'). Laid BY PROGRAM, IN A SANDBOX (cutbox-door.mjs). By AI agents, Wed Nov 11 2026. No macro, syntax, notation, axiom, sorry.
-/
import Derived.Test.YtagplmlhpocbjaaDoorRows
import GoSem.ClaimSeven
namespace Go.Proofs.YtagplmlhpocbjaaDoor
namespace Rows

/-- THE TIED CARD OF 'cartagelaw13.PhaseEvents'. -/
def phaseEventsCard : Claim7 := { stood := { row := phaseEventsRow, standIns := [], harness := (true, "a4bfe97e2e2be89eb6ef99c21408bf44fd42ebfb23ad88b87f32ce8cc48de6cd"), looks := true }, kinds := [], alts := [], laidByText := true, laidKinds := [.sentinel, .sentinel, .sentinel, .sentinel, .sentinel, .sentinel, .sentinel, .sentinel, .sentinel, .sentinel, .sentinel, .sentinel, .sentinel, .sentinel, .sentinel, .sentinel, .sentinel, .sentinel, .sentinel, .sentinel, .sentinel, .sentinel, .data], laidTests := true, laidLooks := .later }
def PhaseEventsCardSaid : Prop := Claim7.holds Tryd.pinned (.plain (OpenSpec.ofChange phaseEventsSpec)) phaseEventsCard

/-- THE TIED CARD OF 'cartagelaw13.PhaseAdmits'. -/
def phaseAdmitsCard : Claim7 := { stood := { row := phaseAdmitsRow, standIns := [], harness := (true, "a4bfe97e2e2be89eb6ef99c21408bf44fd42ebfb23ad88b87f32ce8cc48de6cd"), looks := true }, kinds := [], alts := [], laidByText := true, laidKinds := [.sentinel, .sentinel, .sentinel, .sentinel, .sentinel, .sentinel, .sentinel, .sentinel, .sentinel, .sentinel, .sentinel, .sentinel, .sentinel, .sentinel, .sentinel, .sentinel, .sentinel, .sentinel, .sentinel, .sentinel, .sentinel, .sentinel], laidTests := true, laidLooks := .later }
def PhaseAdmitsCardSaid : Prop := Claim7.holds Tryd.pinned (.plain (OpenSpec.ofChange phaseAdmitsSpec)) phaseAdmitsCard

/-- THE TIED CARD OF 'cartagelaw13.PhaseNever'. -/
def phaseNeverCard : Claim7 := { stood := { row := phaseNeverRow, standIns := [], harness := (true, "a4bfe97e2e2be89eb6ef99c21408bf44fd42ebfb23ad88b87f32ce8cc48de6cd"), looks := true }, kinds := [], alts := [], laidByText := true, laidKinds := [.sentinel, .sentinel, .sentinel, .sentinel, .sentinel, .sentinel, .sentinel, .sentinel, .sentinel, .sentinel, .sentinel, .sentinel, .sentinel, .sentinel, .sentinel, .sentinel, .sentinel, .sentinel, .sentinel, .sentinel, .sentinel, .sentinel], laidTests := true, laidLooks := .later }
def PhaseNeverCardSaid : Prop := Claim7.holds Tryd.pinned (.plain (OpenSpec.ofChange phaseNeverSpec)) phaseNeverCard

/-- THE TIED CARD OF 'cartagelaw13.PhaseOne'. -/
def phaseOneCard : Claim7 := { stood := { row := phaseOneRow, standIns := [], harness := (true, "a4bfe97e2e2be89eb6ef99c21408bf44fd42ebfb23ad88b87f32ce8cc48de6cd"), looks := true }, kinds := [], alts := [], laidByText := true, laidKinds := [.sentinel, .sentinel, .sentinel, .sentinel, .sentinel, .sentinel, .sentinel, .sentinel, .sentinel, .sentinel, .sentinel, .sentinel, .sentinel, .sentinel, .sentinel, .sentinel, .sentinel, .sentinel, .sentinel, .sentinel, .sentinel, .sentinel], laidTests := true, laidLooks := .later }
def PhaseOneCardSaid : Prop := Claim7.holds Tryd.pinned (.plain (OpenSpec.ofChange phaseOneSpec)) phaseOneCard

/-- THE SECOND FORM's CARD OF 'cartagelaw13.PhaseEvents'. -/
def phaseEventsUptoCard : Claim7 := { stood := { row := phaseEventsUptoRow, standIns := [], harness := (true, "a4bfe97e2e2be89eb6ef99c21408bf44fd42ebfb23ad88b87f32ce8cc48de6cd"), looks := true }, kinds := [], alts := [], laidByText := true, laidKinds := [.sentinel, .sentinel, .sentinel, .sentinel, .sentinel, .sentinel, .sentinel, .sentinel, .sentinel, .sentinel, .sentinel, .sentinel, .sentinel, .sentinel, .sentinel, .sentinel, .sentinel, .sentinel, .sentinel, .sentinel, .sentinel, .sentinel, .data], laidTests := true, laidLooks := .later }
def PhaseEventsUptoCardSaid : Prop := Claim7.holds Tryd.pinned (.plain (OpenSpec.upto phaseEventsSpec)) phaseEventsUptoCard

/-- THE SECOND FORM's CARD OF 'cartagelaw13.PhaseAdmits'. -/
def phaseAdmitsUptoCard : Claim7 := { stood := { row := phaseAdmitsUptoRow, standIns := [], harness := (true, "a4bfe97e2e2be89eb6ef99c21408bf44fd42ebfb23ad88b87f32ce8cc48de6cd"), looks := true }, kinds := [], alts := [], laidByText := true, laidKinds := [.sentinel, .sentinel, .sentinel, .sentinel, .sentinel, .sentinel, .sentinel, .sentinel, .sentinel, .sentinel, .sentinel, .sentinel, .sentinel, .sentinel, .sentinel, .sentinel, .sentinel, .sentinel, .sentinel, .sentinel, .sentinel, .sentinel], laidTests := true, laidLooks := .later }
def PhaseAdmitsUptoCardSaid : Prop := Claim7.holds Tryd.pinned (.plain (OpenSpec.upto phaseAdmitsSpec)) phaseAdmitsUptoCard

/-- THE SECOND FORM's CARD OF 'cartagelaw13.PhaseNever'. -/
def phaseNeverUptoCard : Claim7 := { stood := { row := phaseNeverUptoRow, standIns := [], harness := (true, "a4bfe97e2e2be89eb6ef99c21408bf44fd42ebfb23ad88b87f32ce8cc48de6cd"), looks := true }, kinds := [], alts := [], laidByText := true, laidKinds := [.sentinel, .sentinel, .sentinel, .sentinel, .sentinel, .sentinel, .sentinel, .sentinel, .sentinel, .sentinel, .sentinel, .sentinel, .sentinel, .sentinel, .sentinel, .sentinel, .sentinel, .sentinel, .sentinel, .sentinel, .sentinel, .sentinel], laidTests := true, laidLooks := .later }
def PhaseNeverUptoCardSaid : Prop := Claim7.holds Tryd.pinned (.plain (OpenSpec.upto phaseNeverSpec)) phaseNeverUptoCard

/-- THE SECOND FORM's CARD OF 'cartagelaw13.PhaseOne'. -/
def phaseOneUptoCard : Claim7 := { stood := { row := phaseOneUptoRow, standIns := [], harness := (true, "a4bfe97e2e2be89eb6ef99c21408bf44fd42ebfb23ad88b87f32ce8cc48de6cd"), looks := true }, kinds := [], alts := [], laidByText := true, laidKinds := [.sentinel, .sentinel, .sentinel, .sentinel, .sentinel, .sentinel, .sentinel, .sentinel, .sentinel, .sentinel, .sentinel, .sentinel, .sentinel, .sentinel, .sentinel, .sentinel, .sentinel, .sentinel, .sentinel, .sentinel, .sentinel, .sentinel], laidTests := true, laidLooks := .later }
def PhaseOneUptoCardSaid : Prop := Claim7.holds Tryd.pinned (.plain (OpenSpec.upto phaseOneSpec)) phaseOneUptoCard
end Rows
end Go.Proofs.YtagplmlhpocbjaaDoor
