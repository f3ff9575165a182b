/- The loops of the document's own digest (cartageref01.Sum), taken out of the translation by a function, and what their walks share. -/
import Derived.Test.YtgjcfmgaioiogaaDoorRefPad
namespace Go.Proofs.YtgjcfmgaioiogaaDoor
open Go Go.RowKit
/-- a function's loops, in the order of the text -/
def loopsOf : Code → List Code
  | .loop c => c :: loopsOf c
  | .seq a b => loopsOf a ++ loopsOf b
  | .block _ c => loopsOf c
  | .scope c => loopsOf c
  | .cond _ a b => loopsOf a ++ loopsOf b
  | _ => []
noncomputable def sumLoop (k : Nat) : Code := ((Tryd.f9.body.map loopsOf).getD []).getD k .skip
theorem cell_grown {a w : World} {g : Nat} (h : a.grownBy w (some g)) {b o : Nat} {v : Value} (hc : a.cell? ⟨b, o, none⟩ = some v) (hne : b ≠ g) : w.cell? ⟨b, o, none⟩ = some v := by
  have hb := block_lt_of_cell hc
  have e := h.block b hb (by intro e; cases e; exact hne rfl)
  rw [← hc]
  show (match w.heap[b]? with | some (.cells c _ _) => if (none : Option Nat).isSome then none else c[o]? | _ => none) = (match a.heap[b]? with | some (.cells c _ _) => if (none : Option Nat).isSome then none else c[o]? | _ => none)
  rw [e]
theorem set_mid (pre post : List Nat) (a x : Nat) : (pre ++ a :: post).set pre.length x = pre ++ x :: post := by
  rw [List.set_append_right _ _ (Nat.le_refl _)]; simp
theorem get_mid (pre post : List Nat) (a : Nat) : (pre ++ a :: post).getD pre.length 0 = a := by
  simp [List.getD]
end Go.Proofs.YtgjcfmgaioiogaaDoor
