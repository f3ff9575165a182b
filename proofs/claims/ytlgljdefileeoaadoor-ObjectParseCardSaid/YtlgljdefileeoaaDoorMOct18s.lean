/- Take: what it answers, whatever reads. -/
import Derived.Test.YtlgljdefileeoaaDoorMOct11s
import Derived.Test.YtlgljdefileeoaaDoorMBase
import Derived.Test.YtlgljdefileeoaaDoorMHelds
import Derived.BigQuiet
namespace Go.Proofs.YtlgljdefileeoaaDoor
open Go Go.RowKit
/-- all that stood before stands, but for the blocks of S -/
structure Kpt (S : Nat → Prop) (w w' : World) : Prop where
  os : w'.os = w.os
  tape : w'.tape = w.tape
  output : w'.output = w.output
  size : w.heap.size ≤ w'.heap.size
  block : ∀ b, b < w.heap.size → ¬ S b → w'.heap[b]? = w.heap[b]?
theorem Kpt.of_below {S : Nat → Prop} {w w' : World} (h : Below w.heap.size w w') : Kpt S w w' := ⟨h.os, h.tape, h.output, h.size, fun b hb _ => h.block b hb⟩
theorem Kpt.of_grown {S : Nat → Prop} {w w' : World} {r : Nat} (h : w.grownBy w' (some r)) (hr : S r) : Kpt S w w' := ⟨h.os, h.tape, h.output, h.size, fun b hb hs => h.block b hb (fun e => by injection e with e; subst e; exact hs hr)⟩
theorem Kpt.trans {S : Nat → Prop} {a b c : World} (h : Kpt S a b) (k : Kpt S b c) : Kpt S a c := ⟨k.os.trans h.os, k.tape.trans h.tape, k.output.trans h.output, Nat.le_trans h.size k.size, fun x hx hs => (k.block x (Nat.lt_of_lt_of_le hx h.size) hs).trans (h.block x hx hs)⟩
theorem Kpt.below {w w' : World} (h : Kpt (fun _ => False) w w') : Below w.heap.size w w' := ⟨h.os, h.tape, h.output, h.size, fun b hb => h.block b hb (fun h => h)⟩
/-- what has come to be since may turn -/
theorem Kpt.old {S T : Nat → Prop} {a b c : World} (h : Kpt S a b) (k : Kpt T b c) (hT : ∀ x, T x → x < a.heap.size → S x) : Kpt S a c :=
  ⟨k.os.trans h.os, k.tape.trans h.tape, k.output.trans h.output, Nat.le_trans h.size k.size, fun x hx hs => (k.block x (Nat.lt_of_lt_of_le hx h.size) (fun ht => hs (hT x ht hx))).trans (h.block x hx hs)⟩
theorem Kpt.blk {S : Nat → Prop} {w w' : World} (h : Kpt S w w') {g : Nat} {t : TypeId} {cs : Array Value} (hg : Blk w g t cs) (hs : ¬ S g) : Blk w' g t cs := (h.block g hg.lt hs).trans hg
theorem Kpt.cell {S : Nat → Prop} {w w' : World} (h : Kpt S w w') {p : Addr} {v : Value} (hp : w.cell? p = some v) (hs : ¬ S p.block) : w'.cell? p = some v := (World.cell?_of_block (h.block p.block (block_lt_of_cell hp) hs)).trans hp
theorem rdg_info : (Tryd.prog.info? 68).map (·.size) = some 4 := by kernel_rfl
/-- the world in which run is called: the reading, Take's variable -/
abbrev takeBox (w : World) (v : Value) : World := (w.alloc (.cells #[v, .bool true, .bool false, .nilIface] 68)).alloc (.cells #[.pointer (some ⟨w.heap.size, 0, none⟩)] 66)
theorem takeBox_size (w : World) (v : Value) : (takeBox w v).heap.size = w.heap.size + 2 := by simp
theorem runBox_size (w : World) (r : Nat) : (runBox w r).heap.size = w.heap.size + 2 := by simp
theorem below_takeRun (w : World) (v : Value) : Below w.heap.size w (runBox (takeBox w v) w.heap.size) :=
  ((((Below.refl _ _).alloc (Nat.le_refl _) _).alloc (by simp) _).alloc (by simp <;> omega) _).alloc (by simp <;> omega) _
theorem inAt_run {w0 w : World} {v : Value} {xs : List Nat} (hw : Below w0.heap.size w0 w) (hv : Rd w0 v xs) : InAt w0 (runBox (takeBox w v) w.heap.size) ((takeBox w v).heap.size + 1) w.heap.size xs := by
  refine ⟨v, ⟨?_, ?_, ?_⟩, hv, below_then hw (below_takeRun w v), hw.size, ?_⟩
  · have h := Blk.new ((takeBox w v).alloc (.cells #[.pointer (some ⟨w.heap.size, 0, none⟩)] 66)) 93 #[.pointer (some ⟨w.heap.size, 0, none⟩)]
    rwa [show ((takeBox w v).alloc (.cells #[.pointer (some ⟨w.heap.size, 0, none⟩)] 66)).heap.size = (takeBox w v).heap.size + 1 by simp] at h
  · exact (((Blk.new w _ _).alloc _).alloc _).alloc _
  · rw [takeBox_size]; omega
  · rw [takeBox_size]; have := hw.size; omega
theorem var_run (w : World) (v : Value) : Blk (runBox (takeBox w v) w.heap.size) (w.heap.size + 1) 66 #[.pointer (some ⟨w.heap.size, 0, none⟩)] := by
  have h := Blk.new (w.alloc (.cells #[v, .bool true, .bool false, .nilIface] 68)) 66 #[.pointer (some ⟨w.heap.size, 0, none⟩)]
  rw [show (w.alloc (.cells #[v, .bool true, .bool false, .nilIface] 68)).heap.size = w.heap.size + 1 by simp] at h
  exact (h.alloc _).alloc _
theorem var_run2 (w : World) (v : Value) : Blk (runBox (takeBox w v) w.heap.size) (w.heap.size + 2) 66 #[.pointer (some ⟨w.heap.size, 0, none⟩)] := by
  have h := Blk.new (takeBox w v) 66 #[.pointer (some ⟨w.heap.size, 0, none⟩)]
  rw [takeBox_size] at h
  exact h.alloc _
end Go.Proofs.YtlgljdefileeoaaDoor
/- Take, whatever reads: what it answers. -/
namespace Go.Proofs.YtlgljdefileeoaaDoor
open Go Go.RowKit
/-- What Take is told of a function that reads: it goes on to zs. -/
def ReadsTo (K : Nat) (cap : Array Value) (S : Nat → Prop) (w0 w : World) (xs zs : List Nat) (R : Nat → Value → World → Prop) : Prop :=
  ∀ (w2 : World) (i r : Nat), w.heap.size ≤ r → w.heap.size ≤ i → InAt w0 w2 i r xs → Below w.heap.size w w2 →
    Calls Tryd.prog K (#[.pointer (some ⟨i, 0, none⟩)] ++ cap) w2 fun e w' => ∃ u, e = .returned u ∧ InAt w0 w' i r zs ∧ Kpt (fun b => b = r ∨ S b) w2 w' ∧ R r u w'
/-- .. it ends by an error. -/
def ReadsBad (K : Nat) (cap : Array Value) (S : Nat → Prop) (w0 w : World) (xs : List Nat) (ae : Addr) : Prop :=
  ∀ (w2 : World) (i r : Nat), w.heap.size ≤ r → w.heap.size ≤ i → InAt w0 w2 i r xs → Below w.heap.size w w2 →
    Calls Tryd.prog K (#[.pointer (some ⟨i, 0, none⟩)] ++ cap) w2 fun e w' => e = .panicked [{ v := stopV r, recovered := false }] ∧ Dead w' r (ev ae) ∧ Kpt (fun b => b = r ∨ S b) w2 w'
section
variable {S : Nat → Prop} {w0 w w1 w2 : World} {v : Value}
theorem kpt_end (h1 : Kpt (fun b => b = w.heap.size ∨ S b) (runBox (takeBox w v) w.heap.size) w1) (h2 : w1.grownBy w2 (some w.heap.size)) : Kpt S w w2 :=
  Kpt.old (Kpt.of_below (below_takeRun w v)) (Kpt.trans h1 (Kpt.of_grown h2 (Or.inl rfl))) fun x hx hl => hx.elim (fun e => by omega) id
theorem kpt_var (hS : ∀ b, S b → b < w.heap.size) (h1 : Kpt (fun b => b = w.heap.size ∨ S b) (runBox (takeBox w v) w.heap.size) w1) : w1.cell? ⟨w.heap.size + 1, 0, none⟩ = some (.pointer (some ⟨w.heap.size, 0, none⟩)) :=
  (h1.blk (var_run w v) (fun e => by rcases e with e | e; omega; have := hS _ e; omega)).cell 0
theorem kpt_var2 (hS : ∀ b, S b → b < w.heap.size) (h1 : Kpt (fun b => b = w.heap.size ∨ S b) (runBox (takeBox w v) w.heap.size) w1) : w1.cell? ⟨(takeBox w v).heap.size, 0, none⟩ = some (.pointer (some ⟨w.heap.size, 0, none⟩)) := by
  rw [takeBox_size]
  exact (h1.blk (var_run2 w v) (fun e => by rcases e with e | e; omega; have := hS _ e; omega)).cell 0
end
end Go.Proofs.YtlgljdefileeoaaDoor
/- A goal set aside: the walk stands still at it. -/
namespace Go.Proofs.YtlgljdefileeoaaDoor
/-- A walk rests here. -/
def Paused (p : Prop) : Prop := p
theorem pause {p : Prop} (h : Paused p) : p := h
end Go.Proofs.YtlgljdefileeoaaDoor
/- Objects of layer 6 as they lie: rows of elements of several cells, entries, parents, an object's cells. -/
namespace Go.Proofs.YtlgljdefileeoaaDoor
open Go Go.RowKit
/-- A load of cells that are known as a whole, in a region whose operations only read. -/
theorem quiet_load {P : Program} {C : World → Prop} {o : Oper} {a : Act} {K : Act → Prop} (ty : TypeId) (x : Operand) (ho : o.op = .load ty x) (p : Value) (hx : a.eval x = p) (v : Value)
    (h : ∀ w, C w → (Instr.loadAt ty p).run P w = .ok v w) (hk : K (a.put o.dst v)) : o.quiet P a C K :=
  ⟨v, fun w hw => by
    unfold Oper.quietAt execOp
    simp only [ho, hx, Sem.run_bind, h w hw, Result.andThen_ok]
    exact ⟨rfl, rfl⟩, hk⟩
/-- Two aggregates compared, in a region whose operations only read. -/
theorem quiet_ne {P : Program} {C : World → Prop} {o : Oper} {a : Act} {K : Act → Prop} (t : TypeId) (x y : Operand) (z : TypeId) (ho : o.op = .binOp .neq t x y z) (xs ys : Array Value) (hx : a.eval x = .agg xs) (hy : a.eval y = .agg ys) (hm : P.eqGuardType P.depth t = false) (r : Bool)
    (h : ∀ w, C w → (Op.equalIn 10000 t (.agg xs) (.agg ys)).run P w = .ok r w) (hk : K (a.put o.dst (.bool (!r)))) : o.quiet P a C K :=
  ⟨_, fun w hw => by
    unfold Oper.quietAt execOp
    simp only [ho, hx, hy, Sem.run_bind, run_eqGuard_agg w .neq t x y xs ys hm, run_neq_struct, h w hw, Result.andThen_ok]
    exact ⟨rfl, rfl⟩, hk⟩
/-- n elements that a slice value shows: cs are their cells. -/
def RdK (w : World) (v : Value) (n : Nat) (cs : List Value) : Prop :=
  ∃ A c, v = .slice A n c ∧ n ≤ c ∧ (0 < n → ∃ b o, A = some ⟨b, o, none⟩ ∧ b < w.heap.size ∧ ∀ j u, cs[j]? = some u → w.cell? ⟨b, o + j, none⟩ = some u)
theorem RdK.below {w w' : World} {v : Value} {n : Nat} {cs : List Value} (h : RdK w v n cs) {B : Nat} (hb : Below B w w') (hB : w.heap.size ≤ B) : RdK w' v n cs := by
  obtain ⟨A, c, hv, hc, hA⟩ := h
  refine ⟨A, c, hv, hc, fun h0 => ?_⟩
  obtain ⟨b, o, ha, hl, hx⟩ := hA h0
  have := hb.size
  exact ⟨b, o, ha, by omega, fun j u hu => (hb.cell (p := ⟨b, o + j, none⟩) (by show b < B; omega)).trans (hx j u hu)⟩
theorem RdK.nil (w : World) (cs : List Value) : RdK w (.slice none 0 0) 0 cs := ⟨none, 0, rfl, Nat.le_refl _, fun h => absurd h (by simp)⟩
/-- Are two things the same? -/
noncomputable def eqv {α : Type} (a b : α) : Bool := @decide (a = b) (Classical.propDecidable _)
theorem eqv_true {α : Type} {a b : α} (h : a = b) : eqv a b = true := @decide_eq_true _ (Classical.propDecidable _) h
theorem eqv_false {α : Type} {a b : α} (h : a ≠ b) : eqv a b = false := @decide_eq_false _ (Classical.propDecidable _) h
theorem eqv_iff {α : Type} {a b : α} : eqv a b = true ↔ a = b := @decide_eq_true_iff _ (Classical.propDecidable _)
theorem eqv_self {α : Type} (a : α) : eqv a a = true := eqv_true rfl
theorem beq_eqv {α : Type} [BEq α] [LawfulBEq α] (a b : α) : (a == b) = eqv a b := by
  rw [Bool.eq_iff_iff, beq_iff_eq, eqv_iff]
/-- An entry of a tree: its name, its id. -/
structure Ent where
  name : ByteArray
  id : List Nat
/-- An object, plainly. -/
structure Ob where
  kind : Int
  text : List Nat
  ents : List Ent
  target : List Nat
  pars : List (List Nat)
def Id32 (x : List Nat) : Prop := x.length = 32 ∧ Sha.Byte x
/-- What is so of every object that lies in memory. -/
structure Ob.Fit (o : Ob) : Prop where
  text : Sha.Byte o.text
  ents : ∀ e ∈ o.ents, Id32 e.id
  target : Id32 o.target
  pars : ∀ p ∈ o.pars, Id32 p
def cellsE1 (e : Ent) : List Value := .string e.name :: cellsB e.id
def cellsE (es : List Ent) : List Value := es.flatMap cellsE1
def cellsP (ps : List (List Nat)) : List Value := ps.flatMap cellsB
theorem flat_get {α : Type} (f : α → List Value) (n : Nat) : ∀ (l : List α) (_ : ∀ a ∈ l, (f a).length = n) (k : Nat) (h : k < l.length) (j : Nat) (_ : j < n), (l.flatMap f)[n * k + j]? = (f l[k])[j]?
  | a :: l, hl, 0, _, j, hj => by
    rw [List.flatMap_cons, Nat.mul_zero, Nat.zero_add, List.getElem?_append_left (by rw [hl a (List.mem_cons_self ..)]; exact hj)]; rfl
  | a :: l, hl, k + 1, h, j, hj => by
    have ih := flat_get f n l (fun a h => hl a (List.mem_cons_of_mem _ h)) k (by simpa using h) j hj
    have h1 : (f a).length = n := hl a (List.mem_cons_self ..)
    rw [List.flatMap_cons, List.getElem?_append_right (by rw [h1, Nat.mul_succ]; omega), h1, show n * (k + 1) + j - n = n * k + j by rw [Nat.mul_succ]; omega, ih]; rfl
theorem flat_len {α : Type} (f : α → List Value) (n : Nat) : ∀ (l : List α) (_ : ∀ a ∈ l, (f a).length = n), (l.flatMap f).length = l.length * n
  | [], _ => by simp
  | a :: l, hl => by
    rw [List.flatMap_cons, List.length_append, flat_len f n l (fun a h => hl a (List.mem_cons_of_mem _ h)), hl a (List.mem_cons_self ..), List.length_cons, Nat.succ_mul]; omega
theorem cellsE1_len {e : Ent} (h : Id32 e.id) : (cellsE1 e).length = 33 := by simp [cellsE1, cellsB, h.1]
theorem cellsP1_len {p : List Nat} (h : Id32 p) : (cellsB p).length = 32 := by simp [cellsB, h.1]
theorem cellsE_take {es : List Ent} {k : Nat} (h : k < es.length) : cellsE (es.take (k + 1)) = cellsE (es.take k) ++ cellsE1 es[k] := by
  rw [List.take_succ_eq_append_getElem h, cellsE, List.flatMap_append]; simp [cellsE]
theorem cellsP_take {ps : List (List Nat)} {k : Nat} (h : k < ps.length) : cellsP (ps.take (k + 1)) = cellsP (ps.take k) ++ cellsB ps[k] := by
  rw [List.take_succ_eq_append_getElem h, cellsP, List.flatMap_append]; simp [cellsP]
/-- Element k of entries that a slice shows. -/
theorem RdK.ent {w : World} {A : Option Addr} {n c : Nat} {es : List Ent} (h : RdK w (.slice A n c) n (cellsE es)) (hn : n = es.length) (hf : ∀ e ∈ es, Id32 e.id) {k : Nat} (hk : k < es.length) :
    ∃ b o, A = some ⟨b, o, none⟩ ∧ b < w.heap.size ∧ w.rangeAt b (o + k * 33) (cellsE1 es[k]) := by
  obtain ⟨A', c', hv, hc, hA⟩ := h
  injection hv with e1 e2 e3
  subst e1
  obtain ⟨b, o, ha, hl, hx⟩ := hA (by omega)
  refine ⟨b, o, ha, hl, fun j u hu => ?_⟩
  have hj : j < 33 := by have := (List.getElem?_eq_some_iff.1 hu).1; rwa [cellsE1_len (hf _ (List.getElem_mem _))] at this
  rw [Nat.add_assoc]
  refine hx (k * 33 + j) u ?_
  rw [cellsE, Nat.mul_comm k 33, flat_get cellsE1 33 es (fun e he => cellsE1_len (hf e he)) k hk j hj, hu]
theorem RdK.par {w : World} {A : Option Addr} {n c : Nat} {ps : List (List Nat)} (h : RdK w (.slice A n c) n (cellsP ps)) (hn : n = ps.length) (hf : ∀ p ∈ ps, Id32 p) {k : Nat} (hk : k < ps.length) :
    ∃ b o, A = some ⟨b, o, none⟩ ∧ b < w.heap.size ∧ w.rangeAt b (o + k * 32) (cellsB ps[k]) := by
  obtain ⟨A', c', hv, hc, hA⟩ := h
  injection hv with e1 e2 e3
  subst e1
  obtain ⟨b, o, ha, hl, hx⟩ := hA (by omega)
  refine ⟨b, o, ha, hl, fun j u hu => ?_⟩
  have hj : j < 32 := by have := (List.getElem?_eq_some_iff.1 hu).1; rwa [cellsP1_len (hf _ (List.getElem_mem _))] at this
  rw [Nat.add_assoc]
  refine hx (k * 32 + j) u ?_
  rw [cellsP, Nat.mul_comm k 32, flat_get cellsB 32 ps (fun e he => cellsP1_len (hf e he)) k hk j hj, hu]
/-- An object's cells. -/
structure ObC (w : World) (o : Ob) (cs : Array Value) (T : Option Addr) (tc : Nat) (E : Option Addr) (ec : Nat) (P : Option Addr) (pc : Nat) : Prop where
  cells : cs = (.int .i64 o.kind :: .slice T o.text.length tc :: .slice E o.ents.length ec :: (cellsB o.target ++ [.slice P o.pars.length pc])).toArray
  text : Rd w (.slice T o.text.length tc) o.text
  ents : RdK w (.slice E o.ents.length ec) o.ents.length (cellsE o.ents)
  pars : RdK w (.slice P o.pars.length pc) o.pars.length (cellsP o.pars)
theorem ObC.below {w w' : World} {o : Ob} {cs : Array Value} {T E P : Option Addr} {tc ec pc : Nat} (h : ObC w o cs T tc E ec P pc) {B : Nat} (hb : Below B w w') (hB : w.heap.size ≤ B) : ObC w' o cs T tc E ec P pc :=
  ⟨h.cells, h.text.below hb hB, h.ents.below hb hB, h.pars.below hb hB⟩
section
variable {w : World} {o : Ob} {cs : Array Value} {T E P : Option Addr} {tc ec pc : Nat}
theorem ObC.size (h : ObC w o cs T tc E ec P pc) (hf : o.Fit) : cs.size = 36 := by
  rw [h.cells]; simp [cellsB_len, hf.target.1]
theorem ObC.c0 (h : ObC w o cs T tc E ec P pc) : cs[0]? = some (.int .i64 o.kind) := by rw [h.cells]; rfl
theorem ObC.c1 (h : ObC w o cs T tc E ec P pc) : cs[1]? = some (.slice T o.text.length tc) := by rw [h.cells]; rfl
theorem ObC.c2 (h : ObC w o cs T tc E ec P pc) : cs[2]? = some (.slice E o.ents.length ec) := by rw [h.cells]; rfl
theorem ObC.c35 (h : ObC w o cs T tc E ec P pc) (hf : o.Fit) : cs[35]? = some (.slice P o.pars.length pc) := by
  rw [h.cells]
  rw [List.getElem?_toArray, show (35 : Nat) = 32 + 1 + 1 + 1 from rfl, List.getElem?_cons_succ, List.getElem?_cons_succ, List.getElem?_cons_succ, List.getElem?_append_right (by rw [cellsB_len, hf.target.1]; omega), cellsB_len, hf.target.1]
  rfl
/-- The target's cells in a block that holds the object. -/
theorem ObC.mid (h : ObC w o cs T tc E ec P pc) {wb : World} {g : Nat} {t : TypeId} (hB : Blk wb g t cs) : wb.rangeAt g 3 (cellsB o.target) := fun j u hu => by
  rw [hB.cell, h.cells]
  rw [List.getElem?_toArray, show 3 + j = j + 1 + 1 + 1 by omega, List.getElem?_cons_succ, List.getElem?_cons_succ, List.getElem?_cons_succ, List.getElem?_append_left (List.getElem?_eq_some_iff.1 hu).1, hu]
end
end Go.Proofs.YtlgljdefileeoaaDoor
/- Rows of ids, and of entries, compared (slices.Equal). -/
namespace Go.Proofs.YtlgljdefileeoaaDoor
open Go Go.RowKit
theorem size_u8 (w : World) : (sizeOf 5).run Tryd.prog w = .ok 1 w := by simp [Tryd.sizeOf5]
theorem id_eq (w : World) (x y : List Nat) (hx : Id32 x) (hy : Id32 y) : (Op.equalIn 10000 27 (.agg (cellsB x).toArray) (.agg (cellsB y).toArray)).run Tryd.prog w = .ok (eqv x y) w :=
  beq_eqv x y ▸ run_equalIn_u8s w 27 5 32 Tryd.underlying27 Tryd.underlying5 size_u8 x y hx.1 hy.1 hx.2 hy.2
theorem take_all {α : Type} {xs ys : List α} {k : Nat} (h1 : k < xs.length) (h2 : k < ys.length) (h : xs.take k = ys.take k) (e : xs[k] = ys[k]) : xs.take (k + 1) = ys.take (k + 1) := by
  rw [List.take_succ_eq_append_getElem h1, List.take_succ_eq_append_getElem h2, h, e]
end Go.Proofs.YtlgljdefileeoaaDoor
/- Entries compared, alone and in rows. -/
namespace Go.Proofs.YtlgljdefileeoaaDoor
open Go Go.RowKit
theorem id_eq9 (d : Nat) (w : World) (x y : List Nat) (hx : Id32 x) (hy : Id32 y) : (Op.equalIn (d + 2) 27 (.agg (cellsB x).toArray) (.agg (cellsB y).toArray)).run Tryd.prog w = .ok (eqv x y) w := by
  rw [← beq_eqv, ← ofNat_inj x y hx.2 hy.2]
  have h := run_equalIn_bytes w d 27 5 32 Tryd.underlying27 Tryd.underlying5 size_u8 (x.map UInt8.ofNat) (y.map UInt8.ofNat) (by rw [List.length_map, hx.1]) (by rw [List.length_map, hy.1])
  rw [← u8s_cell x hx.2, ← u8s_cell y hy.2] at h
  exact h
theorem ent_part (w : World) (e : Ent) (h : Id32 e.id) : (part 27 (cellsE1 e).toArray 1).run Tryd.prog w = .ok (.agg (cellsB e.id).toArray) w := by
  have hx : List.take 32 (cellsE1 e).tail = cellsB e.id := by
    rw [cellsE1, List.tail_cons, List.take_of_length_le (by rw [cellsB_len, h.1]; omega)]
  have hs : (cellsE1 e).toArray.size = 33 := by rw [List.size_toArray, cellsE1_len h]
  simp [part, isAgg, run_underlying Tryd.underlying27, Tryd.sizeOf27, hx, hs]
theorem ent_name (w : World) (e : Ent) : (part 9 (cellsE1 e).toArray 0).run Tryd.prog w = .ok (.string e.name) w := by
  simp [part, isAgg, run_underlying Tryd.underlying9, cellsE1]
theorem toList_inj {a b : ByteArray} : (a.toList == b.toList) = eqv a b := by
  rw [Bool.eq_iff_iff, beq_iff_eq, eqv_iff, ByteArray.toList_eq, ByteArray.toList_eq]
  refine ⟨fun h => ?_, fun h => by rw [h]⟩
  obtain ⟨⟨x⟩⟩ := a
  obtain ⟨⟨y⟩⟩ := b
  have h : x = y := h
  rw [h]
theorem eqf_true {P : Program} {w : World} {d : Nat} {xs ys : Array Value} {f : Field} {fs : List Field} (hn : f.name ≠ "_") {t : TypeId} {o : Nat} (ht : f.type = t) (ho : f.offset = o) {a b : Value}
    (ha : (part t xs o).run P w = .ok a w) (hb : (part t ys o).run P w = .ok b w) (he : (Op.equalIn d t a b).run P w = .ok true w) : (Op.eqFields d xs ys (f :: fs)).run P w = (Op.eqFields d xs ys fs).run P w := by
  subst ht ho
  rw [Op.eqFields, if_pos hn]
  simp only [Sem.run_bind, ha, hb, he, Result.andThen_ok]
  rfl
theorem eqf_false {P : Program} {w : World} {d : Nat} {xs ys : Array Value} {f : Field} {fs : List Field} (hn : f.name ≠ "_") {t : TypeId} {o : Nat} (ht : f.type = t) (ho : f.offset = o) {a b : Value}
    (ha : (part t xs o).run P w = .ok a w) (hb : (part t ys o).run P w = .ok b w) (he : (Op.equalIn d t a b).run P w = .ok false w) : (Op.eqFields d xs ys (f :: fs)).run P w = .ok false w := by
  subst ht ho
  rw [Op.eqFields, if_pos hn]
  simp only [Sem.run_bind, ha, hb, he, Result.andThen_ok]
  rfl
theorem ent_fields (w : World) (k : Nat) (f0 f1 : Field) (n0 : f0.name ≠ "_") (n1 : f1.name ≠ "_") (t0 : f0.type = 9) (o0 : f0.offset = 0) (t1 : f1.type = 27) (o1 : f1.offset = 1)
    (d e : Ent) (hd : Id32 d.id) (he : Id32 e.id) : (Op.eqFields (k + 2) (cellsE1 d).toArray (cellsE1 e).toArray [f0, f1]).run Tryd.prog w = .ok (eqv d e) w := by
  have k5 := run_equalIn_string (P := Tryd.prog) w (k + 1) 9 d.name e.name Tryd.underlying9
  rw [toList_inj] at k5
  have hi' := id_eq9 k w d.id e.id hd he
  by_cases h1 : d.name = e.name
  · rw [eqv_true h1] at k5
    rw [eqf_true n0 t0 o0 (ent_name w d) (ent_name w e) k5]
    by_cases h2 : d.id = e.id
    · have h3 : d = e := by obtain ⟨dn, di⟩ := d; obtain ⟨en, ei⟩ := e; dsimp only at h1 h2; rw [h1, h2]
      rw [eqv_true h2] at hi'
      rw [eqv_true h3, eqf_true n1 t1 o1 (ent_part w d hd) (ent_part w e he) hi']
      rfl
    · have h3 : d ≠ e := fun h => h2 (by rw [h])
      rw [eqv_false h2] at hi'
      rw [eqv_false h3, eqf_false n1 t1 o1 (ent_part w d hd) (ent_part w e he) hi']
  · have h3 : d ≠ e := fun h => h1 (by rw [h])
    rw [eqv_false h1] at k5
    rw [eqv_false h3, eqf_false n0 t0 o0 (ent_name w d) (ent_name w e) k5]
theorem ent_eq_of (w : World) (t : TypeId) (ht : Tryd.prog.underlying t = some (.struct (Tryd.prog.fieldsOf t))) (hp : Tryd.prog.stoodInHeld t = false) (k : Nat) (hF : (Tryd.prog.fieldsOf t).toList.map (fun f => (f.name == "_", f.type, f.offset)) = [(false, 9, 0), (false, 27, 1)])
    (d e : Ent) (hd : Id32 d.id) (he : Id32 e.id) : (Op.equalIn (k + 3) t (.agg (cellsE1 d).toArray) (.agg (cellsE1 e).toArray)).run Tryd.prog w = .ok (eqv d e) w := by
  rw [run_equalIn_struct w (k + 2) t _ _ ht hp]
  generalize (Tryd.prog.fieldsOf t).toList = L at hF
  rcases L with _ | ⟨f0, _ | ⟨f1, _ | ⟨f2, L⟩⟩⟩
  · simp at hF
  · simp at hF
  · simp only [List.map_cons, List.map_nil, List.cons.injEq, Prod.mk.injEq, and_true] at hF
    obtain ⟨⟨n0, t0, o0⟩, n1, t1, o1⟩ := hF
    exact ent_fields w k f0 f1 (beq_eq_false_iff_ne.1 n0) (beq_eq_false_iff_ne.1 n1) t0 o0 t1 o1 d e hd he
  · simp at hF
theorem ent_eq (w : World) (d e : Ent) (hd : Id32 d.id) (he : Id32 e.id) : (Op.equalIn 10000 61 (.agg (cellsE1 d).toArray) (.agg (cellsE1 e).toArray)).run Tryd.prog w = .ok (eqv d e) w :=
  ent_eq_of w 61 (by kernel_rfl) (by kernel_rfl) 9997 (by kernel_rfl) d e hd he
end Go.Proofs.YtlgljdefileeoaaDoor
/- Rows of entries compared (slices.Equal). -/
namespace Go.Proofs.YtlgljdefileeoaaDoor
open Go Go.RowKit
end Go.Proofs.YtlgljdefileeoaaDoor
/- Two objects compared (object.Same). -/
namespace Go.Proofs.YtlgljdefileeoaaDoor
open Go Go.RowKit
/-- A load in the middle of a block, in a region that keeps its order, whatever its guard, if it is carried out. -/
theorem wpList_mid_w {P : Program} {ops : Array Oper} {rest : List Oper} {op : Oper} {a : Act} {w : World} {Q : Exit → Act → World → Prop} (hw : Region.wanted op (yielded ops a.tmps) = true) (ty : TypeId) (x : Operand) (ho : op.op = .load ty x)
    (b o : Nat) (hx : a.eval x = .pointer (some ⟨b, o, none⟩)) (cs : List Value) (d : TypeDesc) (hc : w.rangeAt b o cs)
    (hu : P.underlying ty = some d) (hd : d.isRow = true) (hi : (P.info? ty).map (·.size) = some cs.length)
    (h : wpList P ops Q rest (a.put op.dst (.agg cs.toArray)) w) : wpList P ops Q (op :: rest) a w :=
  wpList_step fun K hK => by
    simp only [hw, if_true]
    exact wp_load_mid ty x ho b o hx cs d hc hu hd hi (hK _ _ h)
theorem textOf_eqv {xs ys : List Nat} (hx : Sha.Byte xs) (hy : Sha.Byte ys) : ((textOf xs).toList == (textOf ys).toList) = eqv xs ys := by
  rw [← beq_eqv, ← ofNat_inj xs ys hx hy, ByteArray.toList_eq, ByteArray.toList_eq]
  rfl
theorem boxed {w : World} (c1 c2 : Array Value) (t : TypeId) : Below w.heap.size w ((w.alloc (.cells c1 t)).alloc (.cells c2 t)) :=
  ((Below.refl _ _).alloc (Nat.le_refl _) _).alloc (((Below.refl _ _).alloc (Nat.le_refl _) _).size) _
theorem boxed2 {w : World} (c1 c2 : Array Value) (t : TypeId) : Blk ((w.alloc (.cells c1 t)).alloc (.cells c2 t)) (w.heap.size + 1) t c2 := by
  have h := Blk.new (w.alloc (.cells c1 t)) t c2
  rwa [show (w.alloc (.cells c1 t)).heap.size = w.heap.size + 1 by simp] at h
end Go.Proofs.YtlgljdefileeoaaDoor
