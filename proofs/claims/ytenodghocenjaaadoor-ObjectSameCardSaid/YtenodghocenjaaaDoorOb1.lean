/- Objects of layer 6 as they lie: rows of elements of several cells, entries, parents, an object's cells. -/
import Derived.Test.YtenodghocenjaaaDoorByt
import Derived.BigQuiet
namespace Go.Proofs.YtenodghocenjaaaDoor
open Go Go.RowKit
/-- A load of cells that are known as a whole, in a region whose operations only read. -/
theorem quiet_load {P : Program} {C : World → Prop} {o : Oper} {a : Act} {K : Act → Prop} (ty : TypeId) (x : Operand) (ho : o.op = .load ty x) (p : Value) (hx : a.eval x = p) (v : Value)
    (h : ∀ w, C w → (Instr.loadAt ty p).run P w = .ok v w) (hk : K (a.put o.dst v)) : o.quiet P a C K :=
  ⟨v, fun w hw => by
    unfold Oper.quietAt execOp
    simp only [ho, hx, Sem.run_bind, h w hw, Result.andThen_ok]
    exact ⟨rfl, rfl⟩, hk⟩
/-- A walk rests here. -/
def Paused (p : Prop) : Prop := p
theorem pause {p : Prop} (h : Paused p) : p := h
/-- Two aggregates compared, in a region whose operations only read. -/
theorem quiet_ne {P : Program} {C : World → Prop} {o : Oper} {a : Act} {K : Act → Prop} (t : TypeId) (x y : Operand) (z : TypeId) (ho : o.op = .binOp .neq t x y z) (xs ys : Array Value) (hx : a.eval x = .agg xs) (hy : a.eval y = .agg ys) (hm : P.eqGuardType P.depth t = false) (r : Bool)
    (h : ∀ w, C w → (Op.equalIn 10000 t (.agg xs) (.agg ys)).run P w = .ok r w) (hk : K (a.put o.dst (.bool (!r)))) : o.quiet P a C K :=
  ⟨_, fun w hw => by
    unfold Oper.quietAt execOp
    simp only [ho, hx, hy, Sem.run_bind, run_eqGuard_agg w .neq t x y xs ys hm, run_neq_struct, h w hw, Result.andThen_ok]
    exact ⟨rfl, rfl⟩, hk⟩
/-- n elements that a slice value shows: cs are their cells. -/
def RdK (w : World) (v : Value) (n : Nat) (cs : List Value) : Prop :=
  ∃ A c, v = .slice A n c ∧ n ≤ c ∧ (0 < n → ∃ b o, A = some ⟨b, o, none⟩ ∧ b < w.heap.size ∧ ∀ j u, cs[j]? = some u → w.cell? ⟨b, o + j, none⟩ = some u)
theorem RdK.below {w w' : World} {v : Value} {n : Nat} {cs : List Value} (h : RdK w v n cs) {B : Nat} (hb : Below B w w') (hB : w.heap.size ≤ B) : RdK w' v n cs := by
  obtain ⟨A, c, hv, hc, hA⟩ := h
  refine ⟨A, c, hv, hc, fun h0 => ?_⟩
  obtain ⟨b, o, ha, hl, hx⟩ := hA h0
  have := hb.size
  exact ⟨b, o, ha, by omega, fun j u hu => (hb.cell (p := ⟨b, o + j, none⟩) (by show b < B; omega)).trans (hx j u hu)⟩
theorem RdK.nil (w : World) (cs : List Value) : RdK w (.slice none 0 0) 0 cs := ⟨none, 0, rfl, Nat.le_refl _, fun h => absurd h (by simp)⟩
/-- Are two things the same? -/
noncomputable def eqv {α : Type} (a b : α) : Bool := @decide (a = b) (Classical.propDecidable _)
theorem eqv_true {α : Type} {a b : α} (h : a = b) : eqv a b = true := @decide_eq_true _ (Classical.propDecidable _) h
theorem eqv_false {α : Type} {a b : α} (h : a ≠ b) : eqv a b = false := @decide_eq_false _ (Classical.propDecidable _) h
theorem eqv_iff {α : Type} {a b : α} : eqv a b = true ↔ a = b := @decide_eq_true_iff _ (Classical.propDecidable _)
theorem eqv_self {α : Type} (a : α) : eqv a a = true := eqv_true rfl
theorem beq_eqv {α : Type} [BEq α] [LawfulBEq α] (a b : α) : (a == b) = eqv a b := by
  rw [Bool.eq_iff_iff, beq_iff_eq, eqv_iff]
/-- An entry of a tree: its name, its id. -/
structure Ent where
  name : ByteArray
  id : List Nat
/-- An object, plainly. -/
structure Ob where
  kind : Int
  text : List Nat
  ents : List Ent
  target : List Nat
  pars : List (List Nat)
def Id32 (x : List Nat) : Prop := x.length = 32 ∧ Sha.Byte x
/-- What is so of every object that lies in memory. -/
structure Ob.Fit (o : Ob) : Prop where
  text : Sha.Byte o.text
  ents : ∀ e ∈ o.ents, Id32 e.id
  target : Id32 o.target
  pars : ∀ p ∈ o.pars, Id32 p
def cellsE1 (e : Ent) : List Value := .string e.name :: cellsB e.id
def cellsE (es : List Ent) : List Value := es.flatMap cellsE1
def cellsP (ps : List (List Nat)) : List Value := ps.flatMap cellsB
theorem flat_get {α : Type} (f : α → List Value) (n : Nat) : ∀ (l : List α) (_ : ∀ a ∈ l, (f a).length = n) (k : Nat) (h : k < l.length) (j : Nat) (_ : j < n), (l.flatMap f)[n * k + j]? = (f l[k])[j]?
  | a :: l, hl, 0, _, j, hj => by
    rw [List.flatMap_cons, Nat.mul_zero, Nat.zero_add, List.getElem?_append_left (by rw [hl a (List.mem_cons_self ..)]; exact hj)]; rfl
  | a :: l, hl, k + 1, h, j, hj => by
    have ih := flat_get f n l (fun a h => hl a (List.mem_cons_of_mem _ h)) k (by simpa using h) j hj
    have h1 : (f a).length = n := hl a (List.mem_cons_self ..)
    rw [List.flatMap_cons, List.getElem?_append_right (by rw [h1, Nat.mul_succ]; omega), h1, show n * (k + 1) + j - n = n * k + j by rw [Nat.mul_succ]; omega, ih]; rfl
theorem flat_len {α : Type} (f : α → List Value) (n : Nat) : ∀ (l : List α) (_ : ∀ a ∈ l, (f a).length = n), (l.flatMap f).length = l.length * n
  | [], _ => by simp
  | a :: l, hl => by
    rw [List.flatMap_cons, List.length_append, flat_len f n l (fun a h => hl a (List.mem_cons_of_mem _ h)), hl a (List.mem_cons_self ..), List.length_cons, Nat.succ_mul]; omega
theorem cellsE1_len {e : Ent} (h : Id32 e.id) : (cellsE1 e).length = 33 := by simp [cellsE1, cellsB, h.1]
theorem cellsP1_len {p : List Nat} (h : Id32 p) : (cellsB p).length = 32 := by simp [cellsB, h.1]
theorem cellsE_take {es : List Ent} {k : Nat} (h : k < es.length) : cellsE (es.take (k + 1)) = cellsE (es.take k) ++ cellsE1 es[k] := by
  rw [List.take_succ_eq_append_getElem h, cellsE, List.flatMap_append]; simp [cellsE]
theorem cellsP_take {ps : List (List Nat)} {k : Nat} (h : k < ps.length) : cellsP (ps.take (k + 1)) = cellsP (ps.take k) ++ cellsB ps[k] := by
  rw [List.take_succ_eq_append_getElem h, cellsP, List.flatMap_append]; simp [cellsP]
/-- Element k of entries that a slice shows. -/
theorem RdK.ent {w : World} {A : Option Addr} {n c : Nat} {es : List Ent} (h : RdK w (.slice A n c) n (cellsE es)) (hn : n = es.length) (hf : ∀ e ∈ es, Id32 e.id) {k : Nat} (hk : k < es.length) :
    ∃ b o, A = some ⟨b, o, none⟩ ∧ b < w.heap.size ∧ w.rangeAt b (o + k * 33) (cellsE1 es[k]) := by
  obtain ⟨A', c', hv, hc, hA⟩ := h
  injection hv with e1 e2 e3
  subst e1
  obtain ⟨b, o, ha, hl, hx⟩ := hA (by omega)
  refine ⟨b, o, ha, hl, fun j u hu => ?_⟩
  have hj : j < 33 := by have := (List.getElem?_eq_some_iff.1 hu).1; rwa [cellsE1_len (hf _ (List.getElem_mem _))] at this
  rw [Nat.add_assoc]
  refine hx (k * 33 + j) u ?_
  rw [cellsE, Nat.mul_comm k 33, flat_get cellsE1 33 es (fun e he => cellsE1_len (hf e he)) k hk j hj, hu]
theorem RdK.par {w : World} {A : Option Addr} {n c : Nat} {ps : List (List Nat)} (h : RdK w (.slice A n c) n (cellsP ps)) (hn : n = ps.length) (hf : ∀ p ∈ ps, Id32 p) {k : Nat} (hk : k < ps.length) :
    ∃ b o, A = some ⟨b, o, none⟩ ∧ b < w.heap.size ∧ w.rangeAt b (o + k * 32) (cellsB ps[k]) := by
  obtain ⟨A', c', hv, hc, hA⟩ := h
  injection hv with e1 e2 e3
  subst e1
  obtain ⟨b, o, ha, hl, hx⟩ := hA (by omega)
  refine ⟨b, o, ha, hl, fun j u hu => ?_⟩
  have hj : j < 32 := by have := (List.getElem?_eq_some_iff.1 hu).1; rwa [cellsP1_len (hf _ (List.getElem_mem _))] at this
  rw [Nat.add_assoc]
  refine hx (k * 32 + j) u ?_
  rw [cellsP, Nat.mul_comm k 32, flat_get cellsB 32 ps (fun e he => cellsP1_len (hf e he)) k hk j hj, hu]
/-- An object's cells. -/
structure ObC (w : World) (o : Ob) (cs : Array Value) (T : Option Addr) (tc : Nat) (E : Option Addr) (ec : Nat) (P : Option Addr) (pc : Nat) : Prop where
  cells : cs = (.int .i64 o.kind :: .slice T o.text.length tc :: .slice E o.ents.length ec :: (cellsB o.target ++ [.slice P o.pars.length pc])).toArray
  text : Rd w (.slice T o.text.length tc) o.text
  ents : RdK w (.slice E o.ents.length ec) o.ents.length (cellsE o.ents)
  pars : RdK w (.slice P o.pars.length pc) o.pars.length (cellsP o.pars)
theorem ObC.below {w w' : World} {o : Ob} {cs : Array Value} {T E P : Option Addr} {tc ec pc : Nat} (h : ObC w o cs T tc E ec P pc) {B : Nat} (hb : Below B w w') (hB : w.heap.size ≤ B) : ObC w' o cs T tc E ec P pc :=
  ⟨h.cells, h.text.below hb hB, h.ents.below hb hB, h.pars.below hb hB⟩
section
variable {w : World} {o : Ob} {cs : Array Value} {T E P : Option Addr} {tc ec pc : Nat}
theorem ObC.size (h : ObC w o cs T tc E ec P pc) (hf : o.Fit) : cs.size = 36 := by
  rw [h.cells]; simp [cellsB_len, hf.target.1]
theorem ObC.c0 (h : ObC w o cs T tc E ec P pc) : cs[0]? = some (.int .i64 o.kind) := by rw [h.cells]; rfl
theorem ObC.c1 (h : ObC w o cs T tc E ec P pc) : cs[1]? = some (.slice T o.text.length tc) := by rw [h.cells]; rfl
theorem ObC.c2 (h : ObC w o cs T tc E ec P pc) : cs[2]? = some (.slice E o.ents.length ec) := by rw [h.cells]; rfl
theorem ObC.c35 (h : ObC w o cs T tc E ec P pc) (hf : o.Fit) : cs[35]? = some (.slice P o.pars.length pc) := by
  rw [h.cells]
  rw [List.getElem?_toArray, show (35 : Nat) = 32 + 1 + 1 + 1 from rfl, List.getElem?_cons_succ, List.getElem?_cons_succ, List.getElem?_cons_succ, List.getElem?_append_right (by rw [cellsB_len, hf.target.1]; omega), cellsB_len, hf.target.1]
  rfl
/-- The target's cells in a block that holds the object. -/
theorem ObC.mid (h : ObC w o cs T tc E ec P pc) {wb : World} {g : Nat} {t : TypeId} (hB : Blk wb g t cs) : wb.rangeAt g 3 (cellsB o.target) := fun j u hu => by
  rw [hB.cell, h.cells]
  rw [List.getElem?_toArray, show 3 + j = j + 1 + 1 + 1 by omega, List.getElem?_cons_succ, List.getElem?_cons_succ, List.getElem?_cons_succ, List.getElem?_append_left (List.getElem?_eq_some_iff.1 hu).1, hu]
end
end Go.Proofs.YtenodghocenjaaaDoor
