/- What every law of layer 1 shares at its row: the two tables out of the listed variables, a world for the witness, the last step. -/
import Derived.Test.YtbllilokcalbcaaDoorCards
import Derived.Test.YtbllilokcalbcaaDoorTie
import Derived.Test.YtbllilokcalbcaaDoorMShaHexs
import Derived.Test.YtbllilokcalbcaaDoorMLawPost
import Derived.ProofKit
import Derived.OpenShut
import Derived.Deep.DeepHandedRow
import Derived.Lib.LaidTab
import Derived.Stop.LaidErr
namespace Go.Proofs.YtbllilokcalbcaaDoor
open Go Go.RowKit Go.WideShapes Go.ChangeShapes Go.ChangeAt
theorem own : ownKnob Tryd.prog.godebug = none := by kernel_rfl
theorem gStart : Tryd.prog.globalNamed "cartage/sha.start" = some 22 := by kernel_rfl
theorem gRounds : Tryd.prog.globalNamed "cartage/sha.rounds" = some 24 := by kernel_rfl
theorem gStartType : (Tryd.prog.globals[22]?).map (·.type) = some 150 := by kernel_rfl
theorem gRoundsType : (Tryd.prog.globals[24]?).map (·.type) = some 159 := by kernel_rfl
theorem cells8 : Tryd.prog.cellsOf 150 = 8 := by kernel_rfl
theorem cells64 : Tryd.prog.cellsOf 159 = 64 := by kernel_rfl
theorem cells1 : Tryd.prog.cellsOf 113 = 1 := by kernel_rfl
theorem list_start : (Rows.laid_cartage_sha_start : DataW Unit) = Lib.tabData .u32 (Sha.H0.map Int.ofNat) := by kernel_rfl
theorem list_rounds : (Rows.laid_cartage_sha_rounds : DataW Unit) = Lib.tabData .u32 (Sha.K.map Int.ofNat) := by kernel_rfl
theorem tabs_of_laid {W : World} (h : laidMet Tryd.prog [("cartage/sha.start", Rows.laid_cartage_sha_start), ("cartage/sha.rounds", Rows.laid_cartage_sha_rounds)] W) : Tabs W := by
  rw [list_start, list_rounds] at h
  have h1 : Lib.TabIs Tryd.prog W "cartage/sha.start" .u32 (Sha.H0.map Int.ofNat) := Lib.tabIs_of_head gStart gStartType Tryd.underlying150 Tryd.underlying113 cells1 cells8 h
  have h2 : Lib.TabIs Tryd.prog W "cartage/sha.rounds" .u32 (Sha.K.map Int.ofNat) := Lib.tabIs_of_head gRounds gRoundsType Tryd.underlying159 Tryd.underlying113 cells1 cells64 h.tail
  have c1 : ∀ i, i < 8 → W.cell? ⟨22, i, none⟩ = some (.int .u32 ((Sha.H0.getD i 0 : Nat) : Int)) := fun i hi => by
    rw [h1.cell gStart i (by simpa [Sha.H0] using hi)]
    simp [List.getD, show i < Sha.H0.length from hi]
  have c2 : ∀ i, i < 64 → W.cell? ⟨24, i, none⟩ = some (.int .u32 ((Sha.K.getD i 0 : Nat) : Int)) := fun i hi => by
    rw [h2.cell gRounds i (by rw [List.length_map]; exact hi)]
    simp [List.getD, show i < Sha.K.length from hi]
  exact ⟨⟨block_lt_of_cell (c2 0 (by omega)), block_lt_of_cell (c1 0 (by omega))⟩, c1, c2⟩
def putCells (cs : Array Value) : Obj → Obj
  | .cells _ t fr => .cells cs t fr
  | o => o
/-- A world for the witness: the settled one, with the two tables as their initialisers lay them. -/
noncomputable def laidWorld (os : Os) : World :=
  { World.holding Tryd.prog os ⟨#[], #[], []⟩ with heap := ((World.holding Tryd.prog os ⟨#[], #[], []⟩).heap.modify 22 (putCells (u32s Sha.H0))).modify 24 (putCells (u32s Sha.K)) }
theorem laidOut : laidOutB Tryd.prog = true := by kernel_rfl
theorem mapsRowed_ : mapsRowed Tryd.prog = true := by kernel_rfl
theorem slicesFull : ((List.range Tryd.prog.types.size).all fun t => match Tryd.prog.underlying t with | some (.slice e) => decide (0 < Tryd.prog.cellsOf e) | _ => true) = true := by kernel_rfl
end Go.Proofs.YtbllilokcalbcaaDoor
