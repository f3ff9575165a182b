/- What the laws share whose rows list error values alone: the sentinels out of 'laid', a world for the witness that has them. -/
import Derived.Test.YtagplmlhpocbjaaDoorCards
import Derived.Test.YtagplmlhpocbjaaDoorTie
import Derived.Test.YtagplmlhpocbjaaDoorErr
import Derived.Test.YtagplmlhpocbjaaDoorLawPost
import Derived.ProofKit
import Derived.OpenShut
import Derived.ChangeMaps5
import Derived.Deep.DeepHandedRow
import Derived.Deep.DeepLaidRun
namespace Go.Proofs.YtagplmlhpocbjaaDoor
open Go Go.RowKit Go.WideShapes Go.ChangeShapes Go.ChangeAt
theorem own : ownKnob Tryd.prog.godebug = none := by kernel_rfl
def putCells (cs : Array Value) : Obj → Obj
  | .cells _ t fr => .cells cs t fr
  | o => o
theorem laidOut : laidOutB Tryd.prog = true := by kernel_rfl
theorem mapsRowed_ : mapsRowed Tryd.prog = true := by kernel_rfl
theorem slicesFull : ((List.range Tryd.prog.types.size).all fun t => match Tryd.prog.underlying t with | some (.slice e) => decide (0 < Tryd.prog.cellsOf e) | _ => true) = true := by kernel_rfl
noncomputable def lowE : Nat := (World.holding Tryd.prog default ⟨#[], #[], []⟩).heap.size
/-- A world for the witness: the settled one, with the error values as their initialisers lay them. -/
noncomputable def laidWorldS (os : Os) : World :=
  let w0 := World.holding Tryd.prog os ⟨(stexts.map fun t => Obj.cells #[.string ⟨t.toArray⟩] 97).toArray, #[], []⟩
  { w0 with heap := (List.range 22).foldl (fun h k => h.modify (sgs.getD k 0) (putCells #[ev ⟨lowE + k, 0, none⟩])) w0.heap }
/-- One of the error values out of a list. -/
theorem sent_of (W : World) (l : List (String × DataW Unit)) (h : laidMet Tryd.prog l W) (i : Nat) (n : String) (text : List UInt8) (g : Nat)
    (hi : l[i]? = some (n, .iface "*errors.errorString" (.ptr (.agg [.lit (.string text)])))) (hg : Tryd.prog.globalNamed n = some g) (ht : (Tryd.prog.globals[g]?).map (·.type) = some 27) : ∃ a, SentAt W g text a := by
  obtain ⟨r, hr⟩ := laidMet_at i h hi
  exact sent_of_laid hr hg ht
theorem sents_of (W : World) (h : ∀ k, k < 22 → ∃ a, SentAt W (sgs.getD k 0) (stexts.getD k []) a) : ∃ a, Sents W a := by
  refine ⟨fun k => if hk : k < 22 then Classical.choose (h k hk) else ⟨0, 0, none⟩, fun k hk => ?_⟩
  simp only [hk, dif_pos]
  exact Classical.choose_spec (h k hk)
end Go.Proofs.YtagplmlhpocbjaaDoor
