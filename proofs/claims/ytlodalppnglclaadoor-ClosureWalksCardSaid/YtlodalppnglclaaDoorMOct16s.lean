/- The walk of (*In).fields. -/
import Derived.Test.YtlodalppnglclaaDoorMOct5s
import Derived.Recover
import Derived.Lib.Builder
import Derived.Test.YtlodalppnglclaaDoorMBases
import Derived.Test.YtlodalppnglclaaDoorMLawKits
import Derived.BigQuiet
import Derived.Laws.Tables
import Derived.Great.BuildSlice
namespace Go.Proofs.YtlodalppnglclaaDoor
open Go Go.RowKit
/-- The error values that layer 2 knows. -/
def OSents (w : World) (a : Nat → Addr) : Prop := ∀ k, (k = 0 ∨ k = 1 ∨ k = 2 ∨ k = 3 ∨ k = 6) → SentAt w (sgs.getD k 0) (stexts.getD k []) (a k)
theorem OSents.below {w w' : World} {a : Nat → Addr} (h : OSents w a) {B : Nat} (hb : Below B w w') (hB : w.heap.size ≤ B) : OSents w' a := fun k hk => (h k hk).below hb hB
theorem Sents.o {w : World} {a : Nat → Addr} (h : Sents w a) : OSents w a := fun k hk => h k (by omega)
end Go.Proofs.YtlodalppnglclaaDoor
/- run: what is deferred, and run itself. -/
namespace Go.Proofs.YtlodalppnglclaaDoor
open Go Go.RowKit
theorem slots17 (x v : Value) : #[x] ++ (Array.replicate 17 undef).setIfInBounds 3 v = #[x, undef, undef, undef, v, undef, undef, undef, undef, undef, undef, undef, undef, undef, undef, undef, undef, undef] := by kernel_rfl
theorem stop_eql (r : Nat) (w : World) : (binOp .eql 20 (stopV r) .nilIface).run Tryd.prog w = .ok (.bool false) w := by kernel_rfl
theorem stop_assert (r : Nat) (w : World) : (Instr.typeAssert (stopV r) 20 145 true).run Tryd.prog w = .ok (.tuple #[.agg #[.pointer (some ⟨r, 0, none⟩)], .bool true]) w := by kernel_rfl
theorem stop_neq (r : Nat) (w : World) : (binOp .neq 124 (.pointer (some ⟨r, 0, none⟩)) (.pointer (some ⟨r, 0, none⟩))).run Tryd.prog w = .ok (.bool false) w := by
  cases h : Tryd.prog.info? 126 with
  | none =>
    have h2 : (Tryd.prog.info? 126).isSome = true := by kernel_rfl
    rw [h] at h2; cases h2
  | some j => exact Lib.run_neq_ptr_same w _ Tryd.underlying124 h
end Go.Proofs.YtlodalppnglclaaDoor
/- Take: what it answers, whatever reads. -/
namespace Go.Proofs.YtlodalppnglclaaDoor
open Go Go.RowKit
/-- all that stood before stands, but for the blocks of S -/
structure Kpt (S : Nat → Prop) (w w' : World) : Prop where
  os : w'.os = w.os
  tape : w'.tape = w.tape
  output : w'.output = w.output
  size : w.heap.size ≤ w'.heap.size
  block : ∀ b, b < w.heap.size → ¬ S b → w'.heap[b]? = w.heap[b]?
theorem Kpt.of_below {S : Nat → Prop} {w w' : World} (h : Below w.heap.size w w') : Kpt S w w' := ⟨h.os, h.tape, h.output, h.size, fun b hb _ => h.block b hb⟩
theorem Kpt.of_grown {S : Nat → Prop} {w w' : World} {r : Nat} (h : w.grownBy w' (some r)) (hr : S r) : Kpt S w w' := ⟨h.os, h.tape, h.output, h.size, fun b hb hs => h.block b hb (fun e => by injection e with e; subst e; exact hs hr)⟩
theorem Kpt.trans {S : Nat → Prop} {a b c : World} (h : Kpt S a b) (k : Kpt S b c) : Kpt S a c := ⟨k.os.trans h.os, k.tape.trans h.tape, k.output.trans h.output, Nat.le_trans h.size k.size, fun x hx hs => (k.block x (Nat.lt_of_lt_of_le hx h.size) hs).trans (h.block x hx hs)⟩
theorem Kpt.below {w w' : World} (h : Kpt (fun _ => False) w w') : Below w.heap.size w w' := ⟨h.os, h.tape, h.output, h.size, fun b hb => h.block b hb (fun h => h)⟩
/-- what has come to be since may turn -/
theorem Kpt.old {S T : Nat → Prop} {a b c : World} (h : Kpt S a b) (k : Kpt T b c) (hT : ∀ x, T x → x < a.heap.size → S x) : Kpt S a c :=
  ⟨k.os.trans h.os, k.tape.trans h.tape, k.output.trans h.output, Nat.le_trans h.size k.size, fun x hx hs => (k.block x (Nat.lt_of_lt_of_le hx h.size) (fun ht => hs (hT x ht hx))).trans (h.block x hx hs)⟩
theorem Kpt.blk {S : Nat → Prop} {w w' : World} (h : Kpt S w w') {g : Nat} {t : TypeId} {cs : Array Value} (hg : Blk w g t cs) (hs : ¬ S g) : Blk w' g t cs := (h.block g hg.lt hs).trans hg
theorem Kpt.cell {S : Nat → Prop} {w w' : World} (h : Kpt S w w') {p : Addr} {v : Value} (hp : w.cell? p = some v) (hs : ¬ S p.block) : w'.cell? p = some v := (World.cell?_of_block (h.block p.block (block_lt_of_cell hp) hs)).trans hp
/-- the world in which run is called: the reading, Take's variable -/
abbrev takeBox (w : World) (v : Value) : World := (w.alloc (.cells #[v, .bool true, .bool false, .nilIface] 126)).alloc (.cells #[.pointer (some ⟨w.heap.size, 0, none⟩)] 124)
theorem takeBox_size (w : World) (v : Value) : (takeBox w v).heap.size = w.heap.size + 2 := by simp
end Go.Proofs.YtlodalppnglclaaDoor
/- Take, whatever reads: what it answers. -/
namespace Go.Proofs.YtlodalppnglclaaDoor
open Go Go.RowKit
section
variable {S : Nat → Prop} {w0 w w1 w2 : World} {v : Value}
end
end Go.Proofs.YtlodalppnglclaaDoor
/- A goal set aside: the walk stands still at it. -/
namespace Go.Proofs.YtlodalppnglclaaDoor
/-- A walk rests here. -/
def Paused (p : Prop) : Prop := p
theorem pause {p : Prop} (h : Paused p) : p := h
end Go.Proofs.YtlodalppnglclaaDoor
/- Objects of layer 6 as they lie: rows of elements of several cells, entries, parents, an object's cells. -/
namespace Go.Proofs.YtlodalppnglclaaDoor
open Go Go.RowKit
/-- A load of cells that are known as a whole, in a region whose operations only read. -/
theorem quiet_load {P : Program} {C : World → Prop} {o : Oper} {a : Act} {K : Act → Prop} (ty : TypeId) (x : Operand) (ho : o.op = .load ty x) (p : Value) (hx : a.eval x = p) (v : Value)
    (h : ∀ w, C w → (Instr.loadAt ty p).run P w = .ok v w) (hk : K (a.put o.dst v)) : o.quiet P a C K :=
  ⟨v, fun w hw => by
    unfold Oper.quietAt execOp
    simp only [ho, hx, Sem.run_bind, h w hw, Result.andThen_ok]
    exact ⟨rfl, rfl⟩, hk⟩
/-- n elements that a slice value shows: cs are their cells. -/
def RdK (w : World) (v : Value) (n : Nat) (cs : List Value) : Prop :=
  ∃ A c, v = .slice A n c ∧ n ≤ c ∧ (0 < n → ∃ b o, A = some ⟨b, o, none⟩ ∧ b < w.heap.size ∧ ∀ j u, cs[j]? = some u → w.cell? ⟨b, o + j, none⟩ = some u)
theorem RdK.below {w w' : World} {v : Value} {n : Nat} {cs : List Value} (h : RdK w v n cs) {B : Nat} (hb : Below B w w') (hB : w.heap.size ≤ B) : RdK w' v n cs := by
  obtain ⟨A, c, hv, hc, hA⟩ := h
  refine ⟨A, c, hv, hc, fun h0 => ?_⟩
  obtain ⟨b, o, ha, hl, hx⟩ := hA h0
  have := hb.size
  exact ⟨b, o, ha, by omega, fun j u hu => (hb.cell (p := ⟨b, o + j, none⟩) (by show b < B; omega)).trans (hx j u hu)⟩
theorem RdK.nil (w : World) (cs : List Value) : RdK w (.slice none 0 0) 0 cs := ⟨none, 0, rfl, Nat.le_refl _, fun h => absurd h (by simp)⟩
/-- Are two things the same? -/
noncomputable def eqv {α : Type} (a b : α) : Bool := @decide (a = b) (Classical.propDecidable _)
theorem eqv_true {α : Type} {a b : α} (h : a = b) : eqv a b = true := @decide_eq_true _ (Classical.propDecidable _) h
theorem eqv_false {α : Type} {a b : α} (h : a ≠ b) : eqv a b = false := @decide_eq_false _ (Classical.propDecidable _) h
theorem eqv_iff {α : Type} {a b : α} : eqv a b = true ↔ a = b := @decide_eq_true_iff _ (Classical.propDecidable _)
theorem beq_eqv {α : Type} [BEq α] [LawfulBEq α] (a b : α) : (a == b) = eqv a b := by
  rw [Bool.eq_iff_iff, beq_iff_eq, eqv_iff]
/-- An entry of a tree: its name, its id. -/
structure Ent where
  name : ByteArray
  id : List Nat
/-- An object, plainly. -/
structure Ob where
  kind : Int
  text : List Nat
  ents : List Ent
  target : List Nat
  pars : List (List Nat)
def Id32 (x : List Nat) : Prop := x.length = 32 ∧ Sha.Byte x
/-- What is so of every object that lies in memory. -/
structure Ob.Fit (o : Ob) : Prop where
  text : Sha.Byte o.text
  ents : ∀ e ∈ o.ents, Id32 e.id
  target : Id32 o.target
  pars : ∀ p ∈ o.pars, Id32 p
def cellsE1 (e : Ent) : List Value := .string e.name :: cellsB e.id
def cellsE (es : List Ent) : List Value := es.flatMap cellsE1
def cellsP (ps : List (List Nat)) : List Value := ps.flatMap cellsB
theorem flat_get {α : Type} (f : α → List Value) (n : Nat) : ∀ (l : List α) (_ : ∀ a ∈ l, (f a).length = n) (k : Nat) (h : k < l.length) (j : Nat) (_ : j < n), (l.flatMap f)[n * k + j]? = (f l[k])[j]?
  | a :: l, hl, 0, _, j, hj => by
    rw [List.flatMap_cons, Nat.mul_zero, Nat.zero_add, List.getElem?_append_left (by rw [hl a (List.mem_cons_self ..)]; exact hj)]; rfl
  | a :: l, hl, k + 1, h, j, hj => by
    have ih := flat_get f n l (fun a h => hl a (List.mem_cons_of_mem _ h)) k (by simpa using h) j hj
    have h1 : (f a).length = n := hl a (List.mem_cons_self ..)
    rw [List.flatMap_cons, List.getElem?_append_right (by rw [h1, Nat.mul_succ]; omega), h1, show n * (k + 1) + j - n = n * k + j by rw [Nat.mul_succ]; omega, ih]; rfl
theorem flat_len {α : Type} (f : α → List Value) (n : Nat) : ∀ (l : List α) (_ : ∀ a ∈ l, (f a).length = n), (l.flatMap f).length = l.length * n
  | [], _ => by simp
  | a :: l, hl => by
    rw [List.flatMap_cons, List.length_append, flat_len f n l (fun a h => hl a (List.mem_cons_of_mem _ h)), hl a (List.mem_cons_self ..), List.length_cons, Nat.succ_mul]; omega
theorem cellsE1_len {e : Ent} (h : Id32 e.id) : (cellsE1 e).length = 33 := by simp [cellsE1, cellsB, h.1]
theorem cellsP1_len {p : List Nat} (h : Id32 p) : (cellsB p).length = 32 := by simp [cellsB, h.1]
/-- Element k of entries that a slice shows. -/
theorem RdK.ent {w : World} {A : Option Addr} {n c : Nat} {es : List Ent} (h : RdK w (.slice A n c) n (cellsE es)) (hn : n = es.length) (hf : ∀ e ∈ es, Id32 e.id) {k : Nat} (hk : k < es.length) :
    ∃ b o, A = some ⟨b, o, none⟩ ∧ b < w.heap.size ∧ w.rangeAt b (o + k * 33) (cellsE1 es[k]) := by
  obtain ⟨A', c', hv, hc, hA⟩ := h
  injection hv with e1 e2 e3
  subst e1
  obtain ⟨b, o, ha, hl, hx⟩ := hA (by omega)
  refine ⟨b, o, ha, hl, fun j u hu => ?_⟩
  have hj : j < 33 := by have := (List.getElem?_eq_some_iff.1 hu).1; rwa [cellsE1_len (hf _ (List.getElem_mem _))] at this
  rw [Nat.add_assoc]
  refine hx (k * 33 + j) u ?_
  rw [cellsE, Nat.mul_comm k 33, flat_get cellsE1 33 es (fun e he => cellsE1_len (hf e he)) k hk j hj, hu]
theorem RdK.par {w : World} {A : Option Addr} {n c : Nat} {ps : List (List Nat)} (h : RdK w (.slice A n c) n (cellsP ps)) (hn : n = ps.length) (hf : ∀ p ∈ ps, Id32 p) {k : Nat} (hk : k < ps.length) :
    ∃ b o, A = some ⟨b, o, none⟩ ∧ b < w.heap.size ∧ w.rangeAt b (o + k * 32) (cellsB ps[k]) := by
  obtain ⟨A', c', hv, hc, hA⟩ := h
  injection hv with e1 e2 e3
  subst e1
  obtain ⟨b, o, ha, hl, hx⟩ := hA (by omega)
  refine ⟨b, o, ha, hl, fun j u hu => ?_⟩
  have hj : j < 32 := by have := (List.getElem?_eq_some_iff.1 hu).1; rwa [cellsP1_len (hf _ (List.getElem_mem _))] at this
  rw [Nat.add_assoc]
  refine hx (k * 32 + j) u ?_
  rw [cellsP, Nat.mul_comm k 32, flat_get cellsB 32 ps (fun e he => cellsP1_len (hf e he)) k hk j hj, hu]
/-- An object's cells. -/
structure ObC (w : World) (o : Ob) (cs : Array Value) (T : Option Addr) (tc : Nat) (E : Option Addr) (ec : Nat) (P : Option Addr) (pc : Nat) : Prop where
  cells : cs = (.int .i64 o.kind :: .slice T o.text.length tc :: .slice E o.ents.length ec :: (cellsB o.target ++ [.slice P o.pars.length pc])).toArray
  text : Rd w (.slice T o.text.length tc) o.text
  ents : RdK w (.slice E o.ents.length ec) o.ents.length (cellsE o.ents)
  pars : RdK w (.slice P o.pars.length pc) o.pars.length (cellsP o.pars)
theorem ObC.below {w w' : World} {o : Ob} {cs : Array Value} {T E P : Option Addr} {tc ec pc : Nat} (h : ObC w o cs T tc E ec P pc) {B : Nat} (hb : Below B w w') (hB : w.heap.size ≤ B) : ObC w' o cs T tc E ec P pc :=
  ⟨h.cells, h.text.below hb hB, h.ents.below hb hB, h.pars.below hb hB⟩
section
variable {w : World} {o : Ob} {cs : Array Value} {T E P : Option Addr} {tc ec pc : Nat}
theorem ObC.size (h : ObC w o cs T tc E ec P pc) (hf : o.Fit) : cs.size = 36 := by
  rw [h.cells]; simp [cellsB_len, hf.target.1]
theorem ObC.c0 (h : ObC w o cs T tc E ec P pc) : cs[0]? = some (.int .i64 o.kind) := by rw [h.cells]; rfl
theorem ObC.c1 (h : ObC w o cs T tc E ec P pc) : cs[1]? = some (.slice T o.text.length tc) := by rw [h.cells]; rfl
theorem ObC.c2 (h : ObC w o cs T tc E ec P pc) : cs[2]? = some (.slice E o.ents.length ec) := by rw [h.cells]; rfl
theorem ObC.c35 (h : ObC w o cs T tc E ec P pc) (hf : o.Fit) : cs[35]? = some (.slice P o.pars.length pc) := by
  rw [h.cells]
  rw [List.getElem?_toArray, show (35 : Nat) = 32 + 1 + 1 + 1 from rfl, List.getElem?_cons_succ, List.getElem?_cons_succ, List.getElem?_cons_succ, List.getElem?_append_right (by rw [cellsB_len, hf.target.1]; omega), cellsB_len, hf.target.1]
  rfl
/-- The target's cells in a block that holds the object. -/
theorem ObC.mid (h : ObC w o cs T tc E ec P pc) {wb : World} {g : Nat} {t : TypeId} (hB : Blk wb g t cs) : wb.rangeAt g 3 (cellsB o.target) := fun j u hu => by
  rw [hB.cell, h.cells]
  rw [List.getElem?_toArray, show 3 + j = j + 1 + 1 + 1 by omega, List.getElem?_cons_succ, List.getElem?_cons_succ, List.getElem?_cons_succ, List.getElem?_append_left (List.getElem?_eq_some_iff.1 hu).1, hu]
end
end Go.Proofs.YtlodalppnglclaaDoor
/- Rows of ids, and of entries, compared (slices.Equal). -/
namespace Go.Proofs.YtlodalppnglclaaDoor
open Go Go.RowKit
theorem size_u8 (w : World) : (sizeOf 5).run Tryd.prog w = .ok 1 w := by simp [Tryd.sizeOf5]
theorem id_eq (w : World) (x y : List Nat) (hx : Id32 x) (hy : Id32 y) : (Op.equalIn 10000 37 (.agg (cellsB x).toArray) (.agg (cellsB y).toArray)).run Tryd.prog w = .ok (eqv x y) w :=
  beq_eqv x y ▸ run_equalIn_u8s w 37 5 32 Tryd.underlying37 Tryd.underlying5 size_u8 x y hx.1 hy.1 hx.2 hy.2
theorem take_all {α : Type} {xs ys : List α} {k : Nat} (h1 : k < xs.length) (h2 : k < ys.length) (h : xs.take k = ys.take k) (e : xs[k] = ys[k]) : xs.take (k + 1) = ys.take (k + 1) := by
  rw [List.take_succ_eq_append_getElem h1, List.take_succ_eq_append_getElem h2, h, e]
end Go.Proofs.YtlodalppnglclaaDoor
/- Entries compared, alone and in rows. -/
namespace Go.Proofs.YtlodalppnglclaaDoor
open Go Go.RowKit
end Go.Proofs.YtlodalppnglclaaDoor
/- Rows of entries compared (slices.Equal). -/
namespace Go.Proofs.YtlodalppnglclaaDoor
open Go Go.RowKit
end Go.Proofs.YtlodalppnglclaaDoor
/- Two objects compared (object.Same). -/
namespace Go.Proofs.YtlodalppnglclaaDoor
open Go Go.RowKit
/-- A load in the middle of a block, in a region that keeps its order, whatever its guard, if it is carried out. -/
theorem wpList_mid_w {P : Program} {ops : Array Oper} {rest : List Oper} {op : Oper} {a : Act} {w : World} {Q : Exit → Act → World → Prop} (hw : Region.wanted op (yielded ops a.tmps) = true) (ty : TypeId) (x : Operand) (ho : op.op = .load ty x)
    (b o : Nat) (hx : a.eval x = .pointer (some ⟨b, o, none⟩)) (cs : List Value) (d : TypeDesc) (hc : w.rangeAt b o cs)
    (hu : P.underlying ty = some d) (hd : d.isRow = true) (hi : (P.info? ty).map (·.size) = some cs.length)
    (h : wpList P ops Q rest (a.put op.dst (.agg cs.toArray)) w) : wpList P ops Q (op :: rest) a w :=
  wpList_step fun K hK => by
    simp only [hw, if_true]
    exact wp_load_mid ty x ho b o hx cs d hc hu hd hi (hK _ _ h)
end Go.Proofs.YtlodalppnglclaaDoor
/- The chapter's example of layer 6: strange, rightEntries, aims, Wanted. -/
namespace Go.Proofs.YtlodalppnglclaaDoor
open Go Go.RowKit
abbrev zeros32 : List Nat := List.replicate 32 0
theorem zeros_id : Id32 zeros32 := ⟨by simp, fun i => by
  rw [List.getD_eq_getElem?_getD]
  by_cases h : i < 32
  · simp [h]
  · simp [h]⟩
theorem wanted_any (k : Int) (w : World) : Calls Tryd.prog 44 #[.int .i64 k] w fun e w' => e = .returned (.int .i64 (if k = 3 then 2 else 0)) ∧ w = w' := by
  by_cases h : k = 3
  · subst h
    go_enter Tryd.func44, Tryd.ntmps44
    go_wp2
    go_ret
    exact ⟨rfl, rfl⟩
  · have HV := Lib.hid (show (if k = 3 then (2 : Int) else 0) = 0 from if_neg h)
    go_enter Tryd.func44, Tryd.ntmps44
    go_wp2
    go_ret
    exact ⟨rfl, rfl⟩
end Go.Proofs.YtlodalppnglclaaDoor
/- The chapter's example of layer 6: front, Right, Bytes, alive. -/
namespace Go.Proofs.YtlodalppnglclaaDoor
open Go Go.RowKit
theorem ap_bytes {o : Oper} {a : Act} {w : World} {K : Act → World → Prop} {Q : Exit → Act → World → Prop} (s x : Operand)
    (ho : o.op = .call { callee := .builtin .append, args := #[s, x], argTypes := #[40, 40] }) (base : Nat) (v : Value) (ys : List Nat) (hs : a.eval s = v) (hown : w.ownsRow base 5 1 v ys.length (cellsB ys)) (hbase : base ≤ w.heap.size)
    (u : Value) (hx : a.eval x = u) (xs : List Nat) (hu : Rd w u xs) (hz : ys.length + xs.length ≤ 70368744177664)
    (h : ∀ v' w', w'.ownsRow base 5 1 v' (ys ++ xs).length (cellsB (ys ++ xs)) → w.grownBy w' v.ownBlock → K (a.put o.dst v') w') : o.wp Tryd.prog a w K Q := by
  obtain ⟨i0, hi0, hiz, his, hib⟩ := info_parts byte_info
  obtain ⟨A, c, rfl, hc, hA⟩ := hu
  have e0 : cellsB ys ++ cellsB xs = cellsB (ys ++ xs) := by simp [cellsB]
  cases A with
  | some ad =>
    refine wp_append_own w s x 40 ho base 5 i0 _ 1 1 Tryd.underlying40 hi0 hiz his hib rfl (by decide) v ys.length (cellsB ys) hs hown ad xs.length c (cellsB xs) hx (by rw [cellsB_len, Nat.mul_one]) ?_ (cellsB_one _) (by unfold maxLen; omega) (by omega) hbase ?_
    · intro j t hj
      have hjl : j < xs.length := by have := (List.getElem?_eq_some_iff.1 hj).1; rwa [cellsB_len] at this
      obtain ⟨b, o', ha, _, hxx⟩ := hA (by omega)
      obtain rfl := Option.some.inj ha
      rw [cellsB_get hjl] at hj
      rw [Addr.add_mid, hxx j hjl, hj]
    · intro v' w' h1 h2 _
      rw [e0, ← List.length_append] at h1
      exact h v' w' h1 h2
  | none =>
    have hn : xs.length = 0 := by
      rcases Nat.eq_zero_or_pos xs.length with h0 | h0
      · exact h0
      · obtain ⟨b, o', ha, _⟩ := hA h0
        cases ha
    have e : xs = [] := List.eq_nil_of_length_eq_zero hn
    subst e
    have hrun : ∀ ty, (Builtin.append_ #[40, 40] ty #[v, .slice none 0 c]).run Tryd.prog w = .ok v w := fun ty => by
      rcases hown.2 with ⟨hv, hn0⟩ | ⟨g, cap, cur, hv, _, _, hnc, _⟩
      · rw [hv]
        simp [Builtin.append_, run_underlying Tryd.underlying40, sizeOf, typeInfo, hi0, Builtin.lenOf, Builtin.firstCells]
      · rw [hv]
        simp [Builtin.append_, run_underlying Tryd.underlying40, sizeOf, typeInfo, hi0, Builtin.lenOf, Builtin.firstCells, hnc, storeCells]
    unfold Oper.wp execOp
    simp only [ho, resolve, invoke, builtin, Sem.run_bind, Sem.run_pure, Result.andThen_ok, List.map_toArray, List.map_cons, List.map_nil, hs, hx]
    rw [show ([] : List Nat).length = 0 from rfl, hrun]
    exact h _ _ (by rw [List.append_nil]; exact hown) (World.grownBy.refl w _)

theorem ObC.drewN {w : World} {o : Ob} {cs : Array Value} {T E P : Option Addr} {tc ec pc : Nat} (h : ObC w o cs T tc E ec P pc) (n : Nat) : ObC (w.drewN n) o cs T tc E ec P pc := h.below (below_drewN (Below.refl _ _) n) (Nat.le_refl _)
/-- An object's box, and what stays of it. -/
structure Box (w0 w : World) (g : Nat) (t : TypeId) (cs : Array Value) : Prop where
  at_ : Blk w g t cs
  bel : Below w0.heap.size w0 w
theorem Box.go {w0 w w' : World} {g : Nat} {t : TypeId} {cs : Array Value} (h : Box w0 w g t cs) (k : Below w.heap.size w w') : Box w0 w' g t cs :=
  ⟨h.at_.below k h.at_.lt, ⟨k.os.trans h.bel.os, k.tape.trans h.bel.tape, k.output.trans h.bel.output, Nat.le_trans h.bel.size k.size, fun i hi => (k.block i (Nat.lt_of_lt_of_le hi h.bel.size)).trans (h.bel.block i hi)⟩⟩
theorem Box.new (w : World) (t : TypeId) (cs : Array Value) : Box w (w.alloc (.cells cs t)) w.heap.size t cs := ⟨Blk.new w t cs, (Below.refl _ _).alloc (Nat.le_refl _) _⟩
theorem Box.drew {w0 w : World} {g : Nat} {t : TypeId} {cs : Array Value} (h : Box w0 w g t cs) : Box w0 w.drew g t cs := ⟨h.at_.drew, below_drewN h.bel 1⟩
theorem below_next {a b c : World} (h : Below a.heap.size a b) (k : Below b.heap.size b c) : Below a.heap.size a c :=
  ⟨k.os.trans h.os, k.tape.trans h.tape, k.output.trans h.output, Nat.le_trans h.size k.size, fun i hi => (k.block i (Nat.lt_of_lt_of_le hi h.size)).trans (h.block i hi)⟩
end Go.Proofs.YtlodalppnglclaaDoor
/- An object's cells laid by the program: structs and slices built of aggregates, a row of one's own behind a store elsewhere. -/
namespace Go.Proofs.YtlodalppnglclaaDoor
open Go Go.RowKit
theorem splice_from (off : Nat) : ∀ (xs old pre post : List Value) (n : Nat), old.length = xs.length → pre.length = off + n →
    (xs.zipIdx n).foldl (fun (cs : Array Value) (x : Value × Nat) => cs.setIfInBounds (off + x.2) x.1) (pre ++ old ++ post).toArray = (pre ++ xs ++ post).toArray
  | [], old, pre, post, n, h, _ => by
    obtain rfl : old = [] := List.eq_nil_of_length_eq_zero h
    rfl
  | x :: xs, [], pre, post, n, h, _ => by simp at h
  | x :: xs, o :: old, pre, post, n, h, hp => by
    have e : (pre ++ o :: old ++ post).toArray.setIfInBounds (off + n) x = ((pre ++ [x]) ++ old ++ post).toArray := by
      apply Array.ext'
      rw [Array.toList_setIfInBounds]
      show (pre ++ o :: old ++ post).set (off + n) x = _
      rw [List.append_assoc, List.set_append_right _ _ (by omega), show off + n - pre.length = 0 by omega]
      simp
    rw [List.zipIdx_cons, List.foldl_cons, e, splice_from off xs old (pre ++ [x]) post (n + 1) (by simpa using h) (by simp; omega)]
    simp
/-- One part is laid. -/
theorem fill_part (place : Nat → Option (Nat × Nat)) (i off size : Nat) (v : Value) (rest : List (Nat × Value)) (xs old pre post : List Value) (hp : place i = some (off, size)) (hv : v.cells = xs.toArray) (hx : xs.length = size) (ho : old.length = size) (hpre : pre.length = off) :
    Instr.fill place (pre ++ old ++ post).toArray ((i, v) :: rest) = Instr.fill place (pre ++ xs ++ post).toArray rest := by
  have h1 : ¬ (xs.toArray.size ≠ size) := by simp [hx]
  have h2 : ¬ (off + xs.toArray.size > (pre ++ old ++ post).toArray.size) := by simp; omega
  have h3 : xs.toArray.zipIdx.foldl (fun (cs : Array Value) (x : Value × Nat) => cs.setIfInBounds (off + x.2) x.1) (pre ++ old ++ post).toArray = (pre ++ xs ++ post).toArray := by
    rw [← Array.foldl_toList]
    have : xs.toArray.zipIdx.toList = xs.zipIdx 0 := by simp
    rw [this]
    exact splice_from off xs old pre post 0 (by omega) (by omega)
  rw [Instr.fill, hp]
  simp only [hv]
  rw [if_neg (by simp only [Bool.or_eq_true, decide_eq_true_eq, not_or]; exact ⟨by simpa using h1, h2⟩)]
  exact congrArg (fun c => Instr.fill place c rest) h3
theorem fill_done (place : Nat → Option (Nat × Nat)) (cs : Array Value) : Instr.fill place cs [] = some cs := rfl
theorem wpList_buildK {P : Program} {ops : Array Oper} {rest : List Oper} {o : Oper} {a : Act} {w : World} {Q : Exit → Act → World → Prop} (hg : o.guard = none) (t : TypeId) (parts : Array (Nat × Operand)) (ho : o.op = .build t parts) (vals : List (Nat × Value))
    (hv : (parts.map fun (i, x) => (i, a.eval x)).toList = vals) (cells : Array Value) (h : P.built t vals = some cells) (hk : wpList P ops Q rest (a.put o.dst (.agg cells)) w) : wpList P ops Q (o :: rest) a w :=
  wpList_plain hg fun K hK => by
    refine wp_build t parts ho (by rw [hv, h]; rfl) ?_
    rw [hv, h]
    exact hK _ _ hk
theorem wpList_buildSliceK {P : Program} {ops : Array Oper} {rest : List Oper} {o : Oper} {a : Act} {w : World} {Q : Exit → Act → World → Prop} (hg : o.guard = none) (t e : TypeId) (len : Nat) (parts : Array (Nat × Operand)) (ho : o.op = .buildSlice t len parts)
    (cells : Array Value) (ie : TypeInfo) (z : Value) (hu : P.underlying t = some (.slice e)) (hie : P.info? e = some ie) (hz : ie.zero = some z) (hsmall : ¬ len * ie.size > 2 ^ 24) (hpos : ¬ len * ie.size = 0)
    (vals : List (Nat × Value)) (hv : (parts.map fun (i, x) => (i, a.eval x)).toList = vals)
    (hf : Instr.fill (fun i => some (i * ie.size, ie.size)) ((Array.range (len * ie.size)).map (z.cells[· % z.cells.size]!)) vals = some cells)
    (h : wpList P ops Q rest (a.put o.dst (.slice (some ⟨w.heap.size, 0, none⟩) len len)) (w.alloc (.cells cells e))) : wpList P ops Q (o :: rest) a w :=
  wpList_buildSlice hg t e len parts ho cells ie z hu hie hz hsmall hpos (by rw [hv]; exact hf) h
theorem built_of {P : Program} {t : TypeId} {fields : Array Field} {zc : Array Value} {places : List (Nat × Nat)} (hu : P.underlying t = some (.struct fields)) (hz : ((P.info? t).bind (·.zero)).map (·.cells) = some zc)
    (hp : fields.toList.mapM (fun f => (P.info? f.type).map fun i => (f.offset, i.size)) = some places) (parts : List (Nat × Value)) : P.built t parts = Instr.fill (places.toArray[·]?) zc parts := by
  cases hi : P.info? t with
  | none => simp [hi] at hz
  | some it =>
    cases hzz : it.zero with
    | none => simp [hi, hzz] at hz
    | some z =>
      have hzc : z.cells = zc := by simpa [hi, hzz] using hz
      simp [Program.built, hi, hu, hzz, hp, hzc]
/-- An object's cells, written out. -/
def cellsOb (k : Int) (t e p : Value) (x : List Nat) : List Value := .int .i64 k :: t :: e :: (cellsB x ++ [p])
theorem robj_places : (Tryd.prog.fieldsOf 54).toList.mapM (fun f => (Tryd.prog.info? f.type).map fun i => (f.offset, i.size)) = some [(0, 1), (1, 1), (2, 1), (3, 32), (35, 1)] := by kernel_rfl
theorem robj_zero : ((Tryd.prog.info? 54).bind (·.zero)).map (·.cells) = some (cellsOb 0 (.slice none 0 0) (.slice none 0 0) (.slice none 0 0) (List.replicate 32 0)).toArray := by kernel_rfl
theorem robj_under : Tryd.prog.underlying 54 = some (.struct (Tryd.prog.fieldsOf 54)) := by kernel_rfl
theorem rent_places : (Tryd.prog.fieldsOf 86).toList.mapM (fun f => (Tryd.prog.info? f.type).map fun i => (f.offset, i.size)) = some [(0, 1), (1, 32)] := by kernel_rfl
theorem rent_zero : ((Tryd.prog.info? 86).bind (·.zero)).map (·.cells) = some (cellsE1 ⟨⟨#[]⟩, List.replicate 32 0⟩).toArray := by kernel_rfl
theorem rent_under : Tryd.prog.underlying 86 = some (.struct (Tryd.prog.fieldsOf 86)) := by kernel_rfl
theorem rent_built (e : Ent) (h : Id32 e.id) : Tryd.prog.built 86 [(0, .string e.name), (1, .agg (cellsB e.id).toArray)] = some (cellsE1 e).toArray := by
  rw [built_of rent_under rent_zero rent_places]
  have e1 := fill_part (fun i => ([(0, 1), (1, 32)] : List (Nat × Nat)).toArray[i]?) 0 0 1 (.string e.name) [(1, .agg (cellsB e.id).toArray)] [.string e.name] [.string ⟨#[]⟩] [] (cellsB (List.replicate 32 0)) rfl rfl rfl rfl rfl
  have e2 := fill_part (fun i => ([(0, 1), (1, 32)] : List (Nat × Nat)).toArray[i]?) 1 1 32 (.agg (cellsB e.id).toArray) [] (cellsB e.id) (cellsB (List.replicate 32 0)) [.string e.name] [] rfl rfl (by rw [cellsB_len, h.1]) (by rw [cellsB_len]; rfl) rfl
  rw [List.append_nil, List.append_nil] at e2
  exact e1.trans e2
end Go.Proofs.YtlodalppnglclaaDoor
