/- Objects of layer 6 as they lie: rows of elements of several cells, entries, parents, an object's cells. -/
import Derived.Test.YtcnedkgadfegbaaDoorMOct15s
import Derived.Test.YtcnedkgadfegbaaDoorMHelds
import Derived.BigQuiet
namespace Go.Proofs.YtcnedkgadfegbaaDoor
open Go Go.RowKit
/-- A load of cells that are known as a whole, in a region whose operations only read. -/
theorem quiet_load {P : Program} {C : World → Prop} {o : Oper} {a : Act} {K : Act → Prop} (ty : TypeId) (x : Operand) (ho : o.op = .load ty x) (p : Value) (hx : a.eval x = p) (v : Value)
    (h : ∀ w, C w → (Instr.loadAt ty p).run P w = .ok v w) (hk : K (a.put o.dst v)) : o.quiet P a C K :=
  ⟨v, fun w hw => by
    unfold Oper.quietAt execOp
    simp only [ho, hx, Sem.run_bind, h w hw, Result.andThen_ok]
    exact ⟨rfl, rfl⟩, hk⟩
/-- Two aggregates compared, in a region whose operations only read. -/
theorem quiet_ne {P : Program} {C : World → Prop} {o : Oper} {a : Act} {K : Act → Prop} (t : TypeId) (x y : Operand) (z : TypeId) (ho : o.op = .binOp .neq t x y z) (xs ys : Array Value) (hx : a.eval x = .agg xs) (hy : a.eval y = .agg ys) (hm : P.eqGuardType P.depth t = false) (r : Bool)
    (h : ∀ w, C w → (Op.equalIn 10000 t (.agg xs) (.agg ys)).run P w = .ok r w) (hk : K (a.put o.dst (.bool (!r)))) : o.quiet P a C K :=
  ⟨_, fun w hw => by
    unfold Oper.quietAt execOp
    simp only [ho, hx, hy, Sem.run_bind, run_eqGuard_agg w .neq t x y xs ys hm, run_neq_struct, h w hw, Result.andThen_ok]
    exact ⟨rfl, rfl⟩, hk⟩
/-- n elements that a slice value shows: cs are their cells. -/
def RdK (w : World) (v : Value) (n : Nat) (cs : List Value) : Prop :=
  ∃ A c, v = .slice A n c ∧ n ≤ c ∧ (0 < n → ∃ b o, A = some ⟨b, o, none⟩ ∧ b < w.heap.size ∧ ∀ j u, cs[j]? = some u → w.cell? ⟨b, o + j, none⟩ = some u)
theorem RdK.below {w w' : World} {v : Value} {n : Nat} {cs : List Value} (h : RdK w v n cs) {B : Nat} (hb : Below B w w') (hB : w.heap.size ≤ B) : RdK w' v n cs := by
  obtain ⟨A, c, hv, hc, hA⟩ := h
  refine ⟨A, c, hv, hc, fun h0 => ?_⟩
  obtain ⟨b, o, ha, hl, hx⟩ := hA h0
  have := hb.size
  exact ⟨b, o, ha, by omega, fun j u hu => (hb.cell (p := ⟨b, o + j, none⟩) (by show b < B; omega)).trans (hx j u hu)⟩
theorem RdK.nil (w : World) (cs : List Value) : RdK w (.slice none 0 0) 0 cs := ⟨none, 0, rfl, Nat.le_refl _, fun h => absurd h (by simp)⟩
/-- Are two things the same? -/
noncomputable def eqv {α : Type} (a b : α) : Bool := @decide (a = b) (Classical.propDecidable _)
theorem eqv_true {α : Type} {a b : α} (h : a = b) : eqv a b = true := @decide_eq_true _ (Classical.propDecidable _) h
theorem eqv_false {α : Type} {a b : α} (h : a ≠ b) : eqv a b = false := @decide_eq_false _ (Classical.propDecidable _) h
theorem eqv_iff {α : Type} {a b : α} : eqv a b = true ↔ a = b := @decide_eq_true_iff _ (Classical.propDecidable _)
theorem eqv_self {α : Type} (a : α) : eqv a a = true := eqv_true rfl
theorem beq_eqv {α : Type} [BEq α] [LawfulBEq α] (a b : α) : (a == b) = eqv a b := by
  rw [Bool.eq_iff_iff, beq_iff_eq, eqv_iff]
/-- An entry of a tree: its name, its id. -/
structure Ent where
  name : ByteArray
  id : List Nat
/-- An object, plainly. -/
structure Ob where
  kind : Int
  text : List Nat
  ents : List Ent
  target : List Nat
  pars : List (List Nat)
def Id32 (x : List Nat) : Prop := x.length = 32 ∧ Sha.Byte x
/-- What is so of every object that lies in memory. -/
structure Ob.Fit (o : Ob) : Prop where
  text : Sha.Byte o.text
  ents : ∀ e ∈ o.ents, Id32 e.id
  target : Id32 o.target
  pars : ∀ p ∈ o.pars, Id32 p
def cellsE1 (e : Ent) : List Value := .string e.name :: cellsB e.id
def cellsE (es : List Ent) : List Value := es.flatMap cellsE1
def cellsP (ps : List (List Nat)) : List Value := ps.flatMap cellsB
theorem flat_get {α : Type} (f : α → List Value) (n : Nat) : ∀ (l : List α) (_ : ∀ a ∈ l, (f a).length = n) (k : Nat) (h : k < l.length) (j : Nat) (_ : j < n), (l.flatMap f)[n * k + j]? = (f l[k])[j]?
  | a :: l, hl, 0, _, j, hj => by
    rw [List.flatMap_cons, Nat.mul_zero, Nat.zero_add, List.getElem?_append_left (by rw [hl a (List.mem_cons_self ..)]; exact hj)]; rfl
  | a :: l, hl, k + 1, h, j, hj => by
    have ih := flat_get f n l (fun a h => hl a (List.mem_cons_of_mem _ h)) k (by simpa using h) j hj
    have h1 : (f a).length = n := hl a (List.mem_cons_self ..)
    rw [List.flatMap_cons, List.getElem?_append_right (by rw [h1, Nat.mul_succ]; omega), h1, show n * (k + 1) + j - n = n * k + j by rw [Nat.mul_succ]; omega, ih]; rfl
theorem flat_len {α : Type} (f : α → List Value) (n : Nat) : ∀ (l : List α) (_ : ∀ a ∈ l, (f a).length = n), (l.flatMap f).length = l.length * n
  | [], _ => by simp
  | a :: l, hl => by
    rw [List.flatMap_cons, List.length_append, flat_len f n l (fun a h => hl a (List.mem_cons_of_mem _ h)), hl a (List.mem_cons_self ..), List.length_cons, Nat.succ_mul]; omega
theorem cellsE1_len {e : Ent} (h : Id32 e.id) : (cellsE1 e).length = 33 := by simp [cellsE1, cellsB, h.1]
theorem cellsP1_len {p : List Nat} (h : Id32 p) : (cellsB p).length = 32 := by simp [cellsB, h.1]
theorem cellsE_take {es : List Ent} {k : Nat} (h : k < es.length) : cellsE (es.take (k + 1)) = cellsE (es.take k) ++ cellsE1 es[k] := by
  rw [List.take_succ_eq_append_getElem h, cellsE, List.flatMap_append]; simp [cellsE]
theorem cellsP_take {ps : List (List Nat)} {k : Nat} (h : k < ps.length) : cellsP (ps.take (k + 1)) = cellsP (ps.take k) ++ cellsB ps[k] := by
  rw [List.take_succ_eq_append_getElem h, cellsP, List.flatMap_append]; simp [cellsP]
/-- Element k of entries that a slice shows. -/
theorem RdK.ent {w : World} {A : Option Addr} {n c : Nat} {es : List Ent} (h : RdK w (.slice A n c) n (cellsE es)) (hn : n = es.length) (hf : ∀ e ∈ es, Id32 e.id) {k : Nat} (hk : k < es.length) :
    ∃ b o, A = some ⟨b, o, none⟩ ∧ b < w.heap.size ∧ w.rangeAt b (o + k * 33) (cellsE1 es[k]) := by
  obtain ⟨A', c', hv, hc, hA⟩ := h
  injection hv with e1 e2 e3
  subst e1
  obtain ⟨b, o, ha, hl, hx⟩ := hA (by omega)
  refine ⟨b, o, ha, hl, fun j u hu => ?_⟩
  have hj : j < 33 := by have := (List.getElem?_eq_some_iff.1 hu).1; rwa [cellsE1_len (hf _ (List.getElem_mem _))] at this
  rw [Nat.add_assoc]
  refine hx (k * 33 + j) u ?_
  rw [cellsE, Nat.mul_comm k 33, flat_get cellsE1 33 es (fun e he => cellsE1_len (hf e he)) k hk j hj, hu]
theorem RdK.par {w : World} {A : Option Addr} {n c : Nat} {ps : List (List Nat)} (h : RdK w (.slice A n c) n (cellsP ps)) (hn : n = ps.length) (hf : ∀ p ∈ ps, Id32 p) {k : Nat} (hk : k < ps.length) :
    ∃ b o, A = some ⟨b, o, none⟩ ∧ b < w.heap.size ∧ w.rangeAt b (o + k * 32) (cellsB ps[k]) := by
  obtain ⟨A', c', hv, hc, hA⟩ := h
  injection hv with e1 e2 e3
  subst e1
  obtain ⟨b, o, ha, hl, hx⟩ := hA (by omega)
  refine ⟨b, o, ha, hl, fun j u hu => ?_⟩
  have hj : j < 32 := by have := (List.getElem?_eq_some_iff.1 hu).1; rwa [cellsP1_len (hf _ (List.getElem_mem _))] at this
  rw [Nat.add_assoc]
  refine hx (k * 32 + j) u ?_
  rw [cellsP, Nat.mul_comm k 32, flat_get cellsB 32 ps (fun e he => cellsP1_len (hf e he)) k hk j hj, hu]
/-- An object's cells. -/
structure ObC (w : World) (o : Ob) (cs : Array Value) (T : Option Addr) (tc : Nat) (E : Option Addr) (ec : Nat) (P : Option Addr) (pc : Nat) : Prop where
  cells : cs = (.int .i64 o.kind :: .slice T o.text.length tc :: .slice E o.ents.length ec :: (cellsB o.target ++ [.slice P o.pars.length pc])).toArray
  text : Rd w (.slice T o.text.length tc) o.text
  ents : RdK w (.slice E o.ents.length ec) o.ents.length (cellsE o.ents)
  pars : RdK w (.slice P o.pars.length pc) o.pars.length (cellsP o.pars)
theorem ObC.below {w w' : World} {o : Ob} {cs : Array Value} {T E P : Option Addr} {tc ec pc : Nat} (h : ObC w o cs T tc E ec P pc) {B : Nat} (hb : Below B w w') (hB : w.heap.size ≤ B) : ObC w' o cs T tc E ec P pc :=
  ⟨h.cells, h.text.below hb hB, h.ents.below hb hB, h.pars.below hb hB⟩
section
variable {w : World} {o : Ob} {cs : Array Value} {T E P : Option Addr} {tc ec pc : Nat}
theorem ObC.size (h : ObC w o cs T tc E ec P pc) (hf : o.Fit) : cs.size = 36 := by
  rw [h.cells]; simp [cellsB_len, hf.target.1]
theorem ObC.c0 (h : ObC w o cs T tc E ec P pc) : cs[0]? = some (.int .i64 o.kind) := by rw [h.cells]; rfl
theorem ObC.c1 (h : ObC w o cs T tc E ec P pc) : cs[1]? = some (.slice T o.text.length tc) := by rw [h.cells]; rfl
theorem ObC.c2 (h : ObC w o cs T tc E ec P pc) : cs[2]? = some (.slice E o.ents.length ec) := by rw [h.cells]; rfl
theorem ObC.c35 (h : ObC w o cs T tc E ec P pc) (hf : o.Fit) : cs[35]? = some (.slice P o.pars.length pc) := by
  rw [h.cells]
  rw [List.getElem?_toArray, show (35 : Nat) = 32 + 1 + 1 + 1 from rfl, List.getElem?_cons_succ, List.getElem?_cons_succ, List.getElem?_cons_succ, List.getElem?_append_right (by rw [cellsB_len, hf.target.1]; omega), cellsB_len, hf.target.1]
  rfl
/-- The target's cells in a block that holds the object. -/
theorem ObC.mid (h : ObC w o cs T tc E ec P pc) {wb : World} {g : Nat} {t : TypeId} (hB : Blk wb g t cs) : wb.rangeAt g 3 (cellsB o.target) := fun j u hu => by
  rw [hB.cell, h.cells]
  rw [List.getElem?_toArray, show 3 + j = j + 1 + 1 + 1 by omega, List.getElem?_cons_succ, List.getElem?_cons_succ, List.getElem?_cons_succ, List.getElem?_append_left (List.getElem?_eq_some_iff.1 hu).1, hu]
end
end Go.Proofs.YtcnedkgadfegbaaDoor
/- Rows of ids, and of entries, compared (slices.Equal). -/
namespace Go.Proofs.YtcnedkgadfegbaaDoor
open Go Go.RowKit
theorem size_u8 (w : World) : (sizeOf 5).run Tryd.prog w = .ok 1 w := by simp [Tryd.sizeOf5]
theorem id_eq (w : World) (x y : List Nat) (hx : Id32 x) (hy : Id32 y) : (Op.equalIn 10000 34 (.agg (cellsB x).toArray) (.agg (cellsB y).toArray)).run Tryd.prog w = .ok (eqv x y) w :=
  beq_eqv x y ▸ run_equalIn_u8s w 34 5 32 Tryd.underlying34 Tryd.underlying5 size_u8 x y hx.1 hy.1 hx.2 hy.2
theorem take_all {α : Type} {xs ys : List α} {k : Nat} (h1 : k < xs.length) (h2 : k < ys.length) (h : xs.take k = ys.take k) (e : xs[k] = ys[k]) : xs.take (k + 1) = ys.take (k + 1) := by
  rw [List.take_succ_eq_append_getElem h1, List.take_succ_eq_append_getElem h2, h, e]
end Go.Proofs.YtcnedkgadfegbaaDoor
/- Entries compared, alone and in rows. -/
namespace Go.Proofs.YtcnedkgadfegbaaDoor
open Go Go.RowKit
theorem id_eq9 (d : Nat) (w : World) (x y : List Nat) (hx : Id32 x) (hy : Id32 y) : (Op.equalIn (d + 2) 34 (.agg (cellsB x).toArray) (.agg (cellsB y).toArray)).run Tryd.prog w = .ok (eqv x y) w := by
  rw [← beq_eqv, ← ofNat_inj x y hx.2 hy.2]
  have h := run_equalIn_bytes w d 34 5 32 Tryd.underlying34 Tryd.underlying5 size_u8 (x.map UInt8.ofNat) (y.map UInt8.ofNat) (by rw [List.length_map, hx.1]) (by rw [List.length_map, hy.1])
  rw [← u8s_cell x hx.2, ← u8s_cell y hy.2] at h
  exact h
theorem ent_part (w : World) (e : Ent) (h : Id32 e.id) : (part 34 (cellsE1 e).toArray 1).run Tryd.prog w = .ok (.agg (cellsB e.id).toArray) w := by
  have hx : List.take 32 (cellsE1 e).tail = cellsB e.id := by
    rw [cellsE1, List.tail_cons, List.take_of_length_le (by rw [cellsB_len, h.1]; omega)]
  have hs : (cellsE1 e).toArray.size = 33 := by rw [List.size_toArray, cellsE1_len h]
  simp [part, isAgg, run_underlying Tryd.underlying34, Tryd.sizeOf34, hx, hs]
theorem ent_name (w : World) (e : Ent) : (part 9 (cellsE1 e).toArray 0).run Tryd.prog w = .ok (.string e.name) w := by
  simp [part, isAgg, run_underlying Tryd.underlying9, cellsE1]
theorem toList_inj {a b : ByteArray} : (a.toList == b.toList) = eqv a b := by
  rw [Bool.eq_iff_iff, beq_iff_eq, eqv_iff, ByteArray.toList_eq, ByteArray.toList_eq]
  refine ⟨fun h => ?_, fun h => by rw [h]⟩
  obtain ⟨⟨x⟩⟩ := a
  obtain ⟨⟨y⟩⟩ := b
  have h : x = y := h
  rw [h]
theorem eqf_true {P : Program} {w : World} {d : Nat} {xs ys : Array Value} {f : Field} {fs : List Field} (hn : f.name ≠ "_") {t : TypeId} {o : Nat} (ht : f.type = t) (ho : f.offset = o) {a b : Value}
    (ha : (part t xs o).run P w = .ok a w) (hb : (part t ys o).run P w = .ok b w) (he : (Op.equalIn d t a b).run P w = .ok true w) : (Op.eqFields d xs ys (f :: fs)).run P w = (Op.eqFields d xs ys fs).run P w := by
  subst ht ho
  rw [Op.eqFields, if_pos hn]
  simp only [Sem.run_bind, ha, hb, he, Result.andThen_ok]
  rfl
theorem eqf_false {P : Program} {w : World} {d : Nat} {xs ys : Array Value} {f : Field} {fs : List Field} (hn : f.name ≠ "_") {t : TypeId} {o : Nat} (ht : f.type = t) (ho : f.offset = o) {a b : Value}
    (ha : (part t xs o).run P w = .ok a w) (hb : (part t ys o).run P w = .ok b w) (he : (Op.equalIn d t a b).run P w = .ok false w) : (Op.eqFields d xs ys (f :: fs)).run P w = .ok false w := by
  subst ht ho
  rw [Op.eqFields, if_pos hn]
  simp only [Sem.run_bind, ha, hb, he, Result.andThen_ok]
  rfl
theorem ent_fields (w : World) (k : Nat) (f0 f1 : Field) (n0 : f0.name ≠ "_") (n1 : f1.name ≠ "_") (t0 : f0.type = 9) (o0 : f0.offset = 0) (t1 : f1.type = 34) (o1 : f1.offset = 1)
    (d e : Ent) (hd : Id32 d.id) (he : Id32 e.id) : (Op.eqFields (k + 2) (cellsE1 d).toArray (cellsE1 e).toArray [f0, f1]).run Tryd.prog w = .ok (eqv d e) w := by
  have k5 := run_equalIn_string (P := Tryd.prog) w (k + 1) 9 d.name e.name Tryd.underlying9
  rw [toList_inj] at k5
  have hi' := id_eq9 k w d.id e.id hd he
  by_cases h1 : d.name = e.name
  · rw [eqv_true h1] at k5
    rw [eqf_true n0 t0 o0 (ent_name w d) (ent_name w e) k5]
    by_cases h2 : d.id = e.id
    · have h3 : d = e := by obtain ⟨dn, di⟩ := d; obtain ⟨en, ei⟩ := e; dsimp only at h1 h2; rw [h1, h2]
      rw [eqv_true h2] at hi'
      rw [eqv_true h3, eqf_true n1 t1 o1 (ent_part w d hd) (ent_part w e he) hi']
      rfl
    · have h3 : d ≠ e := fun h => h2 (by rw [h])
      rw [eqv_false h2] at hi'
      rw [eqv_false h3, eqf_false n1 t1 o1 (ent_part w d hd) (ent_part w e he) hi']
  · have h3 : d ≠ e := fun h => h1 (by rw [h])
    rw [eqv_false h1] at k5
    rw [eqv_false h3, eqf_false n0 t0 o0 (ent_name w d) (ent_name w e) k5]
theorem ent_eq_of (w : World) (t : TypeId) (ht : Tryd.prog.underlying t = some (.struct (Tryd.prog.fieldsOf t))) (hp : Tryd.prog.stoodInHeld t = false) (k : Nat) (hF : (Tryd.prog.fieldsOf t).toList.map (fun f => (f.name == "_", f.type, f.offset)) = [(false, 9, 0), (false, 34, 1)])
    (d e : Ent) (hd : Id32 d.id) (he : Id32 e.id) : (Op.equalIn (k + 3) t (.agg (cellsE1 d).toArray) (.agg (cellsE1 e).toArray)).run Tryd.prog w = .ok (eqv d e) w := by
  rw [run_equalIn_struct w (k + 2) t _ _ ht hp]
  generalize (Tryd.prog.fieldsOf t).toList = L at hF
  rcases L with _ | ⟨f0, _ | ⟨f1, _ | ⟨f2, L⟩⟩⟩
  · simp at hF
  · simp at hF
  · simp only [List.map_cons, List.map_nil, List.cons.injEq, Prod.mk.injEq, and_true] at hF
    obtain ⟨⟨n0, t0, o0⟩, n1, t1, o1⟩ := hF
    exact ent_fields w k f0 f1 (beq_eq_false_iff_ne.1 n0) (beq_eq_false_iff_ne.1 n1) t0 o0 t1 o1 d e hd he
  · simp at hF
theorem ent_eq (w : World) (d e : Ent) (hd : Id32 d.id) (he : Id32 e.id) : (Op.equalIn 10000 74 (.agg (cellsE1 d).toArray) (.agg (cellsE1 e).toArray)).run Tryd.prog w = .ok (eqv d e) w :=
  ent_eq_of w 74 (by kernel_rfl) (by kernel_rfl) 9997 (by kernel_rfl) d e hd he
end Go.Proofs.YtcnedkgadfegbaaDoor
/- Rows of entries compared (slices.Equal). -/
namespace Go.Proofs.YtcnedkgadfegbaaDoor
open Go Go.RowKit
end Go.Proofs.YtcnedkgadfegbaaDoor
/- Two objects compared (object.Same). -/
namespace Go.Proofs.YtcnedkgadfegbaaDoor
open Go Go.RowKit
/-- A load in the middle of a block, in a region that keeps its order, whatever its guard, if it is carried out. -/
theorem wpList_mid_w {P : Program} {ops : Array Oper} {rest : List Oper} {op : Oper} {a : Act} {w : World} {Q : Exit → Act → World → Prop} (hw : Region.wanted op (yielded ops a.tmps) = true) (ty : TypeId) (x : Operand) (ho : op.op = .load ty x)
    (b o : Nat) (hx : a.eval x = .pointer (some ⟨b, o, none⟩)) (cs : List Value) (d : TypeDesc) (hc : w.rangeAt b o cs)
    (hu : P.underlying ty = some d) (hd : d.isRow = true) (hi : (P.info? ty).map (·.size) = some cs.length)
    (h : wpList P ops Q rest (a.put op.dst (.agg cs.toArray)) w) : wpList P ops Q (op :: rest) a w :=
  wpList_step fun K hK => by
    simp only [hw, if_true]
    exact wp_load_mid ty x ho b o hx cs d hc hu hd hi (hK _ _ h)
theorem textOf_eqv {xs ys : List Nat} (hx : Sha.Byte xs) (hy : Sha.Byte ys) : ((textOf xs).toList == (textOf ys).toList) = eqv xs ys := by
  rw [← beq_eqv, ← ofNat_inj xs ys hx hy, ByteArray.toList_eq, ByteArray.toList_eq]
  rfl
theorem beqB_any (u v : Value) (xs ys : List Nat) (w : World) (hu : Rd w u xs) (hv : Rd w v ys) (hx : Sha.Byte xs) (hy : Sha.Byte ys) :
    Calls Tryd.prog 83 #[u, v] w fun e w' => e = .returned (.bool (eqv xs ys)) ∧ w = w' := by
  have q1 := conv_rd hu
  have q2 := conv_rd hv
  have q3 := Lib.hid (textOf_eqv hx hy)
  clear hu hv hx hy
  go_enter Tryd.func83, Tryd.ntmps83
  go_wp2
  go_ret
  refine ⟨?_, rfl⟩
  rw [← q3.out]; rfl
theorem boxed {w : World} (c1 c2 : Array Value) (t : TypeId) : Below w.heap.size w ((w.alloc (.cells c1 t)).alloc (.cells c2 t)) :=
  ((Below.refl _ _).alloc (Nat.le_refl _) _).alloc (((Below.refl _ _).alloc (Nat.le_refl _) _).size) _
theorem boxed2 {w : World} (c1 c2 : Array Value) (t : TypeId) : Blk ((w.alloc (.cells c1 t)).alloc (.cells c2 t)) (w.heap.size + 1) t c2 := by
  have h := Blk.new (w.alloc (.cells c1 t)) t c2
  rwa [show (w.alloc (.cells c1 t)).heap.size = w.heap.size + 1 by simp] at h
end Go.Proofs.YtcnedkgadfegbaaDoor
/- The chapter's example of layer 6: strange, rightEntries, aims, Wanted. -/
namespace Go.Proofs.YtcnedkgadfegbaaDoor
open Go Go.RowKit
abbrev zeros32 : List Nat := List.replicate 32 0
/-- the blob x -/
def blobX : Ob := ⟨1, [120], [], zeros32, []⟩
theorem zeros_id : Id32 zeros32 := ⟨by simp, fun i => by
  rw [List.getD_eq_getElem?_getD]
  by_cases h : i < 32
  · simp [h]
  · simp [h]⟩
theorem blobX_fit : blobX.Fit := ⟨fun i => by
    rcases i with _ | i
    · decide
    · simp [blobX], fun e h => absurd h (by simp [blobX]), zeros_id, fun e h => absurd h (by simp [blobX])⟩
theorem aims_one (w : World) : Calls Tryd.prog 63 #[.int .i64 1] w fun e w' => e = .returned (.bool false) ∧ w = w' := by
  go_enter Tryd.func63, Tryd.ntmps63
  go_wp2
  go_ret
  exact ⟨rfl, rfl⟩
theorem rents_nil (A : Option Addr) (c : Nat) (w : World) : Calls Tryd.prog 48 #[.slice A 0 c] w fun e w' => e = .returned (.bool true) ∧ w = w' := by
  go_enter Tryd.func48, Tryd.ntmps48
  go_wp2
  go_loopw [10] (fun i wr => i = .int .i64 0 ∧ wr = w) (fun _ _ => 0)
  case atStart => exact ⟨rfl, rfl⟩
  case round =>
    obtain ⟨rfl, rfl⟩ := hrel
    go_wp2
    go_ret
    exact ⟨rfl, rfl⟩
set_option maxRecDepth 100000 in
set_option maxHeartbeats 1000000 in
theorem strange_blob (cs : Array Value) (T E P : Option Addr) (tc ec pc : Nat) (w : World) (h : ObC w blobX cs T tc E ec P pc) :
    Calls Tryd.prog 47 #[.agg cs] w fun e w' => e = .returned (.bool false) ∧ Below w.heap.size w w' := by
  obtain ⟨w2, hw2⟩ : ∃ w2, w2 = w.alloc (.cells cs 37) := ⟨_, rfl⟩
  have HBE := Lib.hid (show Below w.heap.size w w2 from hw2 ▸ (Below.refl _ _).alloc (Nat.le_refl _) _)
  have B1 : Blk w2 w.heap.size 37 cs := hw2 ▸ Blk.new w _ cs
  have a0 : w2.cell? ⟨w.heap.size, 0, none⟩ = some (.int .i64 1) := (B1.cell 0).trans h.c0
  have a1 : w2.cell? ⟨w.heap.size, 1, none⟩ = some (.slice T 1 tc) := (B1.cell 1).trans h.c1
  have a2 : w2.cell? ⟨w.heap.size, 2, none⟩ = some (.slice E 0 ec) := (B1.cell 2).trans h.c2
  have a3 : w2.cell? ⟨w.heap.size, 35, none⟩ = some (.slice P 0 pc) := (B1.cell 35).trans (h.c35 blobX_fit)
  have M1 := Lib.hid (h.mid B1)
  have n1 : (Tryd.prog.info? 34).map (·.size) = some (cellsB blobX.target).length := by rw [show (cellsB blobX.target).length = 32 from cellsP1_len zeros_id]; kernel_rfl
  have N1 := Lib.hid n1
  have q0 := id_eq w2 zeros32 zeros32 zeros_id zeros_id
  rw [eqv_self] at q0
  have hz : (cellsB zeros32).toArray = #[.int .u8 0, .int .u8 0, .int .u8 0, .int .u8 0, .int .u8 0, .int .u8 0, .int .u8 0, .int .u8 0, .int .u8 0, .int .u8 0, .int .u8 0, .int .u8 0, .int .u8 0, .int .u8 0, .int .u8 0, .int .u8 0, .int .u8 0, .int .u8 0, .int .u8 0, .int .u8 0, .int .u8 0, .int .u8 0, .int .u8 0, .int .u8 0, .int .u8 0, .int .u8 0, .int .u8 0, .int .u8 0, .int .u8 0, .int .u8 0, .int .u8 0, .int .u8 0] := rfl
  have hw3 := hw2.symm
  have HQ := Lib.hid q0
  clear h B1 hw2 n1 q0
  go_enter Tryd.func47, Tryd.ntmps47
  go_wp2_with (with_reducible (show wpList _ _ _ (Oper.mk _ (Op.load 34 _) _ _ _ _ :: _) _ _); refine pause ?_)
  unfold Paused
  refine wpList_mid_w (by rfl) 34 (.tmp 24) (by rfl) w.heap.size 3 (by rfl) _ _ M1.out Tryd.underlying34 (by rfl) N1.out ?_
  change wpList _ _ _ _ (Act.put _ _ (.agg (cellsB zeros32).toArray)) _
  rw [hz]
  have q1 := HQ.out
  rw [hz] at q1
  go_wp2
  go_ret
  exact ⟨rfl, HBE.out⟩
end Go.Proofs.YtcnedkgadfegbaaDoor
