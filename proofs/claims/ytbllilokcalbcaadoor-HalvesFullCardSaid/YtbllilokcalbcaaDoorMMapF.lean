/- Maps from whole numbers to any values, as functions: what a map's block says, read off the library's laws by taking every value as its own token. -/
import Derived.Test.YtbllilokcalbcaaDoorMBase
import Derived.Maps.OwnSet
namespace Go.Proofs.YtbllilokcalbcaaDoor
open Go Go.RowKit Go.Maps
/-- every value reads as itself -/
def selfR (v : Value) : Option (DataW Value × List MemPlace) := some (.held v, [])
theorem self_mk (v : Value) : selfR v = some (.held v, []) := by unfold selfR; rfl
theorem int_law : Keyed Tryd.prog 3 := int_keyed Tryd.underlying3
theorem key_of {i : Int} (h : (Lit.int .i64 i).wf = true) : keyOf Tryd.prog 3 (.int .i64 i) = some (.int .i64 i) := keyOf_int_mk Tryd.underlying3 h
theorem key_lit {i : Int} (h : (Lit.int .i64 i).wf = true) : WideAt.IsKeyLit (.int .i64 i) := int_law.key (key_of h)
theorem key_ne {i j : Int} (h : j ≠ i) : Lit.int .i64 j ≠ Lit.int .i64 i := fun e => h (by injection e)
/-- Block b is a map of at most n entries: f. -/
def MapF (w : World) (b n : Nat) (f : Int → Option Value) : Prop :=
  ∃ D : DataW Value, w.ownsMap Tryd.prog 3 selfR b n D ∧ ∀ i, (Lit.int .i64 i).wf = true → has D (.int .i64 i) = (f i).isSome ∧ ∀ z, D.atKey (.int .i64 i) (.held z) = .held ((f i).getD z)
def upd (f : Int → Option Value) (i : Int) (v : Option Value) : Int → Option Value := fun j => if j = i then v else f j
section
variable {w w' : World} {b n : Nat} {f : Int → Option Value} {t e : TypeId} {z : Value} {i : Int}
theorem MapF.made (w : World) : MapF (w.alloc (.map #[] 0)) w.heap.size 0 (fun _ => none) := ⟨_, World.ownsMap_made w _ _ _, fun _i _ => ⟨rfl, fun _ => rfl⟩⟩
theorem MapF.lt (h : MapF w b n f) : b < w.heap.size := by obtain ⟨D, h, _⟩ := h; exact h.lt
theorem MapF.mono (h : MapF w b n f) {n' : Nat} (hn : n ≤ n') : MapF w b n' f := by obtain ⟨D, h, k⟩ := h; exact ⟨D, h.mono hn, k⟩
theorem MapF.kept {row : Option Nat} (h : MapF w b n f) (hg : w.grownBy w' row) (hne : some b ≠ row) : MapF w' b n f := by obtain ⟨D, h, k⟩ := h; exact ⟨D, h.kept hg hne, k⟩
theorem MapF.below (h : MapF w b n f) (hb : Below w.heap.size w w') : MapF w' b n f := h.kept (only_of_below hb none) (by simp)
theorem MapF.block (h : MapF w b n f) (e : w'.heap[b]? = w.heap[b]?) : MapF w' b n f := by
  obtain ⟨D, ⟨es, clock, h1, h2, h3, h4⟩, k⟩ := h
  exact ⟨D, ⟨es, clock, e.trans h1, h2, h3, h4⟩, k⟩
theorem MapF.look (h : MapF w b n f) (ht : Tryd.prog.underlying t = some (.map 3 e)) (hz : (zeroValue e).run Tryd.prog w = .ok z w) (hi : (Lit.int .i64 i).wf = true) :
    (Instr.lookup t (.map (some b)) (.int .i64 i) false).run Tryd.prog w = .ok ((f i).getD z) w := by
  obtain ⟨D, h, k⟩ := h
  obtain ⟨v, ps, hrun, hv⟩ := h.lookup int_law ht hz (zd := .held z) (zp := []) (self_mk z) (key_of hi)
  have e0 : DataW.held v = D.atKey (.int .i64 i) (.held z) := congrArg Prod.fst (Option.some.inj hv)
  rw [(k i hi).2 z] at e0
  have e1 := DataW.held.inj e0
  rw [hrun, e1]
theorem MapF.look_ok (h : MapF w b n f) (ht : Tryd.prog.underlying t = some (.map 3 e)) (hz : (zeroValue e).run Tryd.prog w = .ok z w) (hi : (Lit.int .i64 i).wf = true) :
    (Instr.lookup t (.map (some b)) (.int .i64 i) true).run Tryd.prog w = .ok (.tuple #[(f i).getD z, .bool (f i).isSome]) w := by
  obtain ⟨D, h, k⟩ := h
  obtain ⟨v, ps, hrun, hv⟩ := h.look_ok int_law ht hz (zd := .held z) (zp := []) (self_mk z) (key_of hi)
  have e0 : DataW.held v = D.atKey (.int .i64 i) (.held z) := congrArg Prod.fst (Option.some.inj hv)
  rw [(k i hi).2 z] at e0
  have e1 := DataW.held.inj e0
  rw [hrun, e1, (k i hi).1]
theorem MapF.store (h : MapF w b n f) (ht : Tryd.prog.underlying t = some (.map 3 e)) (hn : n < maxLen) (hi : (Lit.int .i64 i).wf = true) (v : Value) :
    ∃ w', (Instr.mapUpdate t (.map (some b)) (.int .i64 i) v).run Tryd.prog w = .ok () w' ∧ MapF w' b (n + 1) (upd f i (some v)) ∧ w.grownBy w' (some b) := by
  obtain ⟨D, h, k⟩ := h
  obtain ⟨w', hrun, h2, hg⟩ := h.update int_law ht hn (key_of hi) (val := v) (d := .held v) (ps := []) (self_mk v)
  refine ⟨w', hrun, ⟨_, h2, fun j hj => ?_⟩, hg⟩
  unfold upd
  by_cases hji : j = i
  · subst hji
    rw [if_pos rfl]
    exact ⟨has_put_same h.isMap (key_lit hi) _, fun z => atKey_put_same h.isMap (key_lit hi) _ _⟩
  · rw [if_neg hji]
    exact ⟨by rw [has_put_other (key_ne hji)]; exact (k j hj).1, fun z => by rw [atKey_put_other (key_ne hji)]; exact (k j hj).2 z⟩
theorem MapF.drop (h : MapF w b n f) (ht : Tryd.prog.underlying t = some (.map 3 e)) (hi : (Lit.int .i64 i).wf = true) (ty : TypeId) :
    ∃ w', (Builtin.delete_ #[t, 3] ty #[.map (some b), .int .i64 i]).run Tryd.prog w = .ok (.tuple #[]) w' ∧ MapF w' b n (upd f i none) ∧ w.grownBy w' (some b) := by
  obtain ⟨D, h, k⟩ := h
  obtain ⟨w', hrun, h2, hg⟩ := h.drop int_law ht (key_of hi) ty
  refine ⟨w', hrun, ⟨_, h2, fun j hj => ?_⟩, hg.grown⟩
  unfold upd
  by_cases hji : j = i
  · subst hji
    rw [if_pos rfl]
    exact ⟨has_del_same, fun z => atKey_del_same _⟩
  · rw [if_neg hji]
    exact ⟨by rw [has_del_other (key_ne hji)]; exact (k j hj).1, fun z => by rw [atKey_del_other (key_ne hji)]; exact (k j hj).2 z⟩
end
end Go.Proofs.YtbllilokcalbcaaDoor
