/- An object's cells laid by the program: structs and slices built of aggregates, a row of one's own behind a store elsewhere. -/
import Derived.Test.YtlgljdefileeoaaDoorMOb8s
import Derived.Laws.Tables
import Derived.Great.BuildSlice
namespace Go.Proofs.YtlgljdefileeoaaDoor
open Go Go.RowKit
theorem splice_from (off : Nat) : ∀ (xs old pre post : List Value) (n : Nat), old.length = xs.length → pre.length = off + n →
    (xs.zipIdx n).foldl (fun (cs : Array Value) (x : Value × Nat) => cs.setIfInBounds (off + x.2) x.1) (pre ++ old ++ post).toArray = (pre ++ xs ++ post).toArray
  | [], old, pre, post, n, h, _ => by
    obtain rfl : old = [] := List.eq_nil_of_length_eq_zero h
    rfl
  | x :: xs, [], pre, post, n, h, _ => by simp at h
  | x :: xs, o :: old, pre, post, n, h, hp => by
    have e : (pre ++ o :: old ++ post).toArray.setIfInBounds (off + n) x = ((pre ++ [x]) ++ old ++ post).toArray := by
      apply Array.ext'
      rw [Array.toList_setIfInBounds]
      show (pre ++ o :: old ++ post).set (off + n) x = _
      rw [List.append_assoc, List.set_append_right _ _ (by omega), show off + n - pre.length = 0 by omega]
      simp
    rw [List.zipIdx_cons, List.foldl_cons, e, splice_from off xs old (pre ++ [x]) post (n + 1) (by simpa using h) (by simp; omega)]
    simp
/-- One part is laid. -/
theorem fill_part (place : Nat → Option (Nat × Nat)) (i off size : Nat) (v : Value) (rest : List (Nat × Value)) (xs old pre post : List Value) (hp : place i = some (off, size)) (hv : v.cells = xs.toArray) (hx : xs.length = size) (ho : old.length = size) (hpre : pre.length = off) :
    Instr.fill place (pre ++ old ++ post).toArray ((i, v) :: rest) = Instr.fill place (pre ++ xs ++ post).toArray rest := by
  have h1 : ¬ (xs.toArray.size ≠ size) := by simp [hx]
  have h2 : ¬ (off + xs.toArray.size > (pre ++ old ++ post).toArray.size) := by simp; omega
  have h3 : xs.toArray.zipIdx.foldl (fun (cs : Array Value) (x : Value × Nat) => cs.setIfInBounds (off + x.2) x.1) (pre ++ old ++ post).toArray = (pre ++ xs ++ post).toArray := by
    rw [← Array.foldl_toList]
    have : xs.toArray.zipIdx.toList = xs.zipIdx 0 := by simp
    rw [this]
    exact splice_from off xs old pre post 0 (by omega) (by omega)
  rw [Instr.fill, hp]
  simp only [hv]
  rw [if_neg (by simp only [Bool.or_eq_true, decide_eq_true_eq, not_or]; exact ⟨by simpa using h1, h2⟩)]
  exact congrArg (fun c => Instr.fill place c rest) h3
theorem fill_done (place : Nat → Option (Nat × Nat)) (cs : Array Value) : Instr.fill place cs [] = some cs := rfl
theorem wpList_buildK {P : Program} {ops : Array Oper} {rest : List Oper} {o : Oper} {a : Act} {w : World} {Q : Exit → Act → World → Prop} (hg : o.guard = none) (t : TypeId) (parts : Array (Nat × Operand)) (ho : o.op = .build t parts) (vals : List (Nat × Value))
    (hv : (parts.map fun (i, x) => (i, a.eval x)).toList = vals) (cells : Array Value) (h : P.built t vals = some cells) (hk : wpList P ops Q rest (a.put o.dst (.agg cells)) w) : wpList P ops Q (o :: rest) a w :=
  wpList_plain hg fun K hK => by
    refine wp_build t parts ho (by rw [hv, h]; rfl) ?_
    rw [hv, h]
    exact hK _ _ hk
theorem wpList_buildSliceK {P : Program} {ops : Array Oper} {rest : List Oper} {o : Oper} {a : Act} {w : World} {Q : Exit → Act → World → Prop} (hg : o.guard = none) (t e : TypeId) (len : Nat) (parts : Array (Nat × Operand)) (ho : o.op = .buildSlice t len parts)
    (cells : Array Value) (ie : TypeInfo) (z : Value) (hu : P.underlying t = some (.slice e)) (hie : P.info? e = some ie) (hz : ie.zero = some z) (hsmall : ¬ len * ie.size > 2 ^ 24) (hpos : ¬ len * ie.size = 0)
    (vals : List (Nat × Value)) (hv : (parts.map fun (i, x) => (i, a.eval x)).toList = vals)
    (hf : Instr.fill (fun i => some (i * ie.size, ie.size)) ((Array.range (len * ie.size)).map (z.cells[· % z.cells.size]!)) vals = some cells)
    (h : wpList P ops Q rest (a.put o.dst (.slice (some ⟨w.heap.size, 0, none⟩) len len)) (w.alloc (.cells cells e))) : wpList P ops Q (o :: rest) a w :=
  wpList_buildSlice hg t e len parts ho cells ie z hu hie hz hsmall hpos (by rw [hv]; exact hf) h
theorem built_of {P : Program} {t : TypeId} {fields : Array Field} {zc : Array Value} {places : List (Nat × Nat)} (hu : P.underlying t = some (.struct fields)) (hz : ((P.info? t).bind (·.zero)).map (·.cells) = some zc)
    (hp : fields.toList.mapM (fun f => (P.info? f.type).map fun i => (f.offset, i.size)) = some places) (parts : List (Nat × Value)) : P.built t parts = Instr.fill (places.toArray[·]?) zc parts := by
  cases hi : P.info? t with
  | none => simp [hi] at hz
  | some it =>
    cases hzz : it.zero with
    | none => simp [hi, hzz] at hz
    | some z =>
      have hzc : z.cells = zc := by simpa [hi, hzz] using hz
      simp [Program.built, hi, hu, hzz, hp, hzc]
theorem ownsRow_far {w : World} {base : Nat} {e : TypeId} {size n : Nat} {v : Value} {xs : List Value} (h : w.ownsRow base e size v n xs) {p : Addr} (hp : p.block < base) (u : Value) : (w.setCell p u).ownsRow base e size v n xs := by
  refine ⟨h.1, ?_⟩
  rcases h.2 with hn | ⟨g, cap, cur, rfl, hb, hgg, hr⟩
  · exact .inl hn
  · exact .inr ⟨g, cap, cur, rfl, hb, by rw [Below.heap_setCell w p u g (by omega)]; exact hgg, hr⟩
/-- An object's cells, written out. -/
def cellsOb (k : Int) (t e p : Value) (x : List Nat) : List Value := .int .i64 k :: t :: e :: (cellsB x ++ [p])
theorem robj_places : (Tryd.prog.fieldsOf 38).toList.mapM (fun f => (Tryd.prog.info? f.type).map fun i => (f.offset, i.size)) = some [(0, 1), (1, 1), (2, 1), (3, 32), (35, 1)] := by kernel_rfl
theorem robj_zero : ((Tryd.prog.info? 38).bind (·.zero)).map (·.cells) = some (cellsOb 0 (.slice none 0 0) (.slice none 0 0) (.slice none 0 0) (List.replicate 32 0)).toArray := by kernel_rfl
theorem robj_under : Tryd.prog.underlying 38 = some (.struct (Tryd.prog.fieldsOf 38)) := by kernel_rfl
theorem robj_built (k : Int) (T : Option Addr) (n c : Nat) (x : List Nat) (hx : x.length = 32) :
    Tryd.prog.built 38 [(0, .int .i64 k), (1, .slice T n c), (3, .agg (cellsB x).toArray)] = some (cellsOb k (.slice T n c) (.slice none 0 0) (.slice none 0 0) x).toArray := by
  rw [built_of robj_under robj_zero robj_places]
  have e1 := fill_part (fun i => ([(0, 1), (1, 1), (2, 1), (3, 32), (35, 1)] : List (Nat × Nat)).toArray[i]?) 0 0 1 (.int .i64 k) [(1, .slice T n c), (3, .agg (cellsB x).toArray)] [.int .i64 k] [.int .i64 0] [] (.slice none 0 0 :: .slice none 0 0 :: (cellsB (List.replicate 32 0) ++ [.slice none 0 0])) rfl rfl rfl rfl rfl
  have e2 := fill_part (fun i => ([(0, 1), (1, 1), (2, 1), (3, 32), (35, 1)] : List (Nat × Nat)).toArray[i]?) 1 1 1 (.slice T n c) [(3, .agg (cellsB x).toArray)] [.slice T n c] [.slice none 0 0] [.int .i64 k] (.slice none 0 0 :: (cellsB (List.replicate 32 0) ++ [.slice none 0 0])) rfl rfl rfl rfl rfl
  have e3 := fill_part (fun i => ([(0, 1), (1, 1), (2, 1), (3, 32), (35, 1)] : List (Nat × Nat)).toArray[i]?) 3 3 32 (.agg (cellsB x).toArray) [] (cellsB x) (cellsB (List.replicate 32 0)) [.int .i64 k, .slice T n c, .slice none 0 0] [.slice none 0 0] rfl rfl (by rw [cellsB_len, hx]) (by rw [cellsB_len]; rfl) rfl
  exact e1.trans (e2.trans e3)
theorem rent_places : (Tryd.prog.fieldsOf 56).toList.mapM (fun f => (Tryd.prog.info? f.type).map fun i => (f.offset, i.size)) = some [(0, 1), (1, 32)] := by kernel_rfl
theorem rent_zero : ((Tryd.prog.info? 56).bind (·.zero)).map (·.cells) = some (cellsE1 ⟨⟨#[]⟩, List.replicate 32 0⟩).toArray := by kernel_rfl
theorem rent_under : Tryd.prog.underlying 56 = some (.struct (Tryd.prog.fieldsOf 56)) := by kernel_rfl
theorem rent_built (e : Ent) (h : Id32 e.id) : Tryd.prog.built 56 [(0, .string e.name), (1, .agg (cellsB e.id).toArray)] = some (cellsE1 e).toArray := by
  rw [built_of rent_under rent_zero rent_places]
  have e1 := fill_part (fun i => ([(0, 1), (1, 32)] : List (Nat × Nat)).toArray[i]?) 0 0 1 (.string e.name) [(1, .agg (cellsB e.id).toArray)] [.string e.name] [.string ⟨#[]⟩] [] (cellsB (List.replicate 32 0)) rfl rfl rfl rfl rfl
  have e2 := fill_part (fun i => ([(0, 1), (1, 32)] : List (Nat × Nat)).toArray[i]?) 1 1 32 (.agg (cellsB e.id).toArray) [] (cellsB e.id) (cellsB (List.replicate 32 0)) [.string e.name] [] rfl rfl (by rw [cellsB_len, h.1]) (by rw [cellsB_len]; rfl) rfl
  rw [List.append_nil, List.append_nil] at e2
  exact e1.trans e2
end Go.Proofs.YtlgljdefileeoaaDoor
