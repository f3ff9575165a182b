/- What the laws share whose rows list the error values of package api: the sentinels out of 'laid', a world for the witness that has them and the two tables. -/
import Derived.Test.YtbllilokcalbcaaDoorMLawKit
import Derived.Test.YtbllilokcalbcaaDoorMLawOpen
import Derived.Test.YtbllilokcalbcaaDoorMErr
import Derived.Deep.DeepLaidRun
namespace Go.Proofs.YtbllilokcalbcaaDoor
open Go Go.RowKit Go.WideShapes Go.ChangeShapes Go.ChangeAt
noncomputable def lowE : Nat := (World.holding Tryd.prog default ⟨#[], #[], []⟩).heap.size
/-- A world for the witness: the settled one, with the error values and the two tables as their initialisers lay them. -/
noncomputable def laidWorldE (os : Os) : World :=
  let w0 := World.holding Tryd.prog os ⟨(stexts.map fun t => Obj.cells #[.string ⟨t.toArray⟩] 187).toArray, #[], []⟩
  { w0 with heap := (((List.range 22).foldl (fun h k => h.modify (sgs.getD k 0) (putCells #[ev ⟨lowE + k, 0, none⟩])) w0.heap).modify 22 (putCells (u32s Sha.H0))).modify 24 (putCells (u32s Sha.K)) }
theorem laidMet_drop {P : Program} {w : World} : ∀ (i : Nat) {l : List (String × DataW Unit)}, laidMet P l w → laidMet P (l.drop i) w
  | 0, _, h => h
  | _ + 1, [], h => h
  | i + 1, _ :: _, h => laidMet_drop i h.tail
/-- One of the error values out of a list. -/
theorem sent_of (W : World) (l : List (String × DataW Unit)) (h : laidMet Tryd.prog l W) (i : Nat) (n : String) (text : List UInt8) (g : Nat)
    (hi : l[i]? = some (n, .iface "*errors.errorString" (.ptr (.agg [.lit (.string text)])))) (hg : Tryd.prog.globalNamed n = some g) (ht : (Tryd.prog.globals[g]?).map (·.type) = some 27) : ∃ a, SentAt W g text a := by
  obtain ⟨r, hr⟩ := laidMet_at i h hi
  exact sent_of_laid hr hg ht
theorem sents_of (W : World) (h : ∀ k, k < 22 → ∃ a, SentAt W (sgs.getD k 0) (stexts.getD k []) a) : ∃ a, Sents W a := by
  refine ⟨fun k => if hk : k < 22 then Classical.choose (h k hk) else ⟨0, 0, none⟩, fun k hk => ?_⟩
  simp only [hk, dif_pos]
  exact Classical.choose_spec (h k hk)
end Go.Proofs.YtbllilokcalbcaaDoor
