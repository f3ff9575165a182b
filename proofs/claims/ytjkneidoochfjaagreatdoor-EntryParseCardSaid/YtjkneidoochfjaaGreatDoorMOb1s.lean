/- Objects of layer 6 as they lie: rows of elements of several cells, entries, parents, an object's cells. -/
import Derived.Test.YtjkneidoochfjaaGreatDoorMShaMsgMaths
import Derived.BigQuiet
namespace Go.Proofs.YtjkneidoochfjaaGreatDoor
open Go Go.RowKit
/-- A load of cells that are known as a whole, in a region whose operations only read. -/
theorem quiet_load {P : Program} {C : World → Prop} {o : Oper} {a : Act} {K : Act → Prop} (ty : TypeId) (x : Operand) (ho : o.op = .load ty x) (p : Value) (hx : a.eval x = p) (v : Value)
    (h : ∀ w, C w → (Instr.loadAt ty p).run P w = .ok v w) (hk : K (a.put o.dst v)) : o.quiet P a C K :=
  ⟨v, fun w hw => by
    unfold Oper.quietAt execOp
    simp only [ho, hx, Sem.run_bind, h w hw, Result.andThen_ok]
    exact ⟨rfl, rfl⟩, hk⟩
/-- Two aggregates compared, in a region whose operations only read. -/
theorem quiet_ne {P : Program} {C : World → Prop} {o : Oper} {a : Act} {K : Act → Prop} (t : TypeId) (x y : Operand) (z : TypeId) (ho : o.op = .binOp .neq t x y z) (xs ys : Array Value) (hx : a.eval x = .agg xs) (hy : a.eval y = .agg ys) (hm : P.eqGuardType P.depth t = false) (r : Bool)
    (h : ∀ w, C w → (Op.equalIn 10000 t (.agg xs) (.agg ys)).run P w = .ok r w) (hk : K (a.put o.dst (.bool (!r)))) : o.quiet P a C K :=
  ⟨_, fun w hw => by
    unfold Oper.quietAt execOp
    simp only [ho, hx, hy, Sem.run_bind, run_eqGuard_agg w .neq t x y xs ys hm, run_neq_struct, h w hw, Result.andThen_ok]
    exact ⟨rfl, rfl⟩, hk⟩
/-- n elements that a slice value shows: cs are their cells. -/
def RdK (w : World) (v : Value) (n : Nat) (cs : List Value) : Prop :=
  ∃ A c, v = .slice A n c ∧ n ≤ c ∧ (0 < n → ∃ b o, A = some ⟨b, o, none⟩ ∧ b < w.heap.size ∧ ∀ j u, cs[j]? = some u → w.cell? ⟨b, o + j, none⟩ = some u)
theorem RdK.below {w w' : World} {v : Value} {n : Nat} {cs : List Value} (h : RdK w v n cs) {B : Nat} (hb : Below B w w') (hB : w.heap.size ≤ B) : RdK w' v n cs := by
  obtain ⟨A, c, hv, hc, hA⟩ := h
  refine ⟨A, c, hv, hc, fun h0 => ?_⟩
  obtain ⟨b, o, ha, hl, hx⟩ := hA h0
  have := hb.size
  exact ⟨b, o, ha, by omega, fun j u hu => (hb.cell (p := ⟨b, o + j, none⟩) (by show b < B; omega)).trans (hx j u hu)⟩
theorem RdK.nil (w : World) (cs : List Value) : RdK w (.slice none 0 0) 0 cs := ⟨none, 0, rfl, Nat.le_refl _, fun h => absurd h (by simp)⟩
/-- Are two things the same? -/
noncomputable def eqv {α : Type} (a b : α) : Bool := @decide (a = b) (Classical.propDecidable _)
theorem eqv_true {α : Type} {a b : α} (h : a = b) : eqv a b = true := @decide_eq_true _ (Classical.propDecidable _) h
theorem eqv_false {α : Type} {a b : α} (h : a ≠ b) : eqv a b = false := @decide_eq_false _ (Classical.propDecidable _) h
theorem eqv_iff {α : Type} {a b : α} : eqv a b = true ↔ a = b := @decide_eq_true_iff _ (Classical.propDecidable _)
theorem beq_eqv {α : Type} [BEq α] [LawfulBEq α] (a b : α) : (a == b) = eqv a b := by
  rw [Bool.eq_iff_iff, beq_iff_eq, eqv_iff]
/-- An entry of a tree: its name, its id. -/
structure Ent where
  name : ByteArray
  id : List Nat
/-- An object, plainly. -/
structure Ob where
  kind : Int
  text : List Nat
  ents : List Ent
  target : List Nat
  pars : List (List Nat)
def Id32 (x : List Nat) : Prop := x.length = 32 ∧ Sha.Byte x
/-- What is so of every object that lies in memory. -/
structure Ob.Fit (o : Ob) : Prop where
  text : Sha.Byte o.text
  ents : ∀ e ∈ o.ents, Id32 e.id
  target : Id32 o.target
  pars : ∀ p ∈ o.pars, Id32 p
def cellsE1 (e : Ent) : List Value := .string e.name :: cellsB e.id
def cellsE (es : List Ent) : List Value := es.flatMap cellsE1
def cellsP (ps : List (List Nat)) : List Value := ps.flatMap cellsB
theorem flat_get {α : Type} (f : α → List Value) (n : Nat) : ∀ (l : List α) (_ : ∀ a ∈ l, (f a).length = n) (k : Nat) (h : k < l.length) (j : Nat) (_ : j < n), (l.flatMap f)[n * k + j]? = (f l[k])[j]?
  | a :: l, hl, 0, _, j, hj => by
    rw [List.flatMap_cons, Nat.mul_zero, Nat.zero_add, List.getElem?_append_left (by rw [hl a (List.mem_cons_self ..)]; exact hj)]; rfl
  | a :: l, hl, k + 1, h, j, hj => by
    have ih := flat_get f n l (fun a h => hl a (List.mem_cons_of_mem _ h)) k (by simpa using h) j hj
    have h1 : (f a).length = n := hl a (List.mem_cons_self ..)
    rw [List.flatMap_cons, List.getElem?_append_right (by rw [h1, Nat.mul_succ]; omega), h1, show n * (k + 1) + j - n = n * k + j by rw [Nat.mul_succ]; omega, ih]; rfl
theorem flat_len {α : Type} (f : α → List Value) (n : Nat) : ∀ (l : List α) (_ : ∀ a ∈ l, (f a).length = n), (l.flatMap f).length = l.length * n
  | [], _ => by simp
  | a :: l, hl => by
    rw [List.flatMap_cons, List.length_append, flat_len f n l (fun a h => hl a (List.mem_cons_of_mem _ h)), hl a (List.mem_cons_self ..), List.length_cons, Nat.succ_mul]; omega
theorem cellsE1_len {e : Ent} (h : Id32 e.id) : (cellsE1 e).length = 33 := by simp [cellsE1, cellsB, h.1]
theorem cellsP1_len {p : List Nat} (h : Id32 p) : (cellsB p).length = 32 := by simp [cellsB, h.1]
/-- Element k of entries that a slice shows. -/
theorem RdK.ent {w : World} {A : Option Addr} {n c : Nat} {es : List Ent} (h : RdK w (.slice A n c) n (cellsE es)) (hn : n = es.length) (hf : ∀ e ∈ es, Id32 e.id) {k : Nat} (hk : k < es.length) :
    ∃ b o, A = some ⟨b, o, none⟩ ∧ b < w.heap.size ∧ w.rangeAt b (o + k * 33) (cellsE1 es[k]) := by
  obtain ⟨A', c', hv, hc, hA⟩ := h
  injection hv with e1 e2 e3
  subst e1
  obtain ⟨b, o, ha, hl, hx⟩ := hA (by omega)
  refine ⟨b, o, ha, hl, fun j u hu => ?_⟩
  have hj : j < 33 := by have := (List.getElem?_eq_some_iff.1 hu).1; rwa [cellsE1_len (hf _ (List.getElem_mem _))] at this
  rw [Nat.add_assoc]
  refine hx (k * 33 + j) u ?_
  rw [cellsE, Nat.mul_comm k 33, flat_get cellsE1 33 es (fun e he => cellsE1_len (hf e he)) k hk j hj, hu]
theorem RdK.par {w : World} {A : Option Addr} {n c : Nat} {ps : List (List Nat)} (h : RdK w (.slice A n c) n (cellsP ps)) (hn : n = ps.length) (hf : ∀ p ∈ ps, Id32 p) {k : Nat} (hk : k < ps.length) :
    ∃ b o, A = some ⟨b, o, none⟩ ∧ b < w.heap.size ∧ w.rangeAt b (o + k * 32) (cellsB ps[k]) := by
  obtain ⟨A', c', hv, hc, hA⟩ := h
  injection hv with e1 e2 e3
  subst e1
  obtain ⟨b, o, ha, hl, hx⟩ := hA (by omega)
  refine ⟨b, o, ha, hl, fun j u hu => ?_⟩
  have hj : j < 32 := by have := (List.getElem?_eq_some_iff.1 hu).1; rwa [cellsP1_len (hf _ (List.getElem_mem _))] at this
  rw [Nat.add_assoc]
  refine hx (k * 32 + j) u ?_
  rw [cellsP, Nat.mul_comm k 32, flat_get cellsB 32 ps (fun e he => cellsP1_len (hf e he)) k hk j hj, hu]
/-- An object's cells. -/
structure ObC (w : World) (o : Ob) (cs : Array Value) (T : Option Addr) (tc : Nat) (E : Option Addr) (ec : Nat) (P : Option Addr) (pc : Nat) : Prop where
  cells : cs = (.int .i64 o.kind :: .slice T o.text.length tc :: .slice E o.ents.length ec :: (cellsB o.target ++ [.slice P o.pars.length pc])).toArray
  text : Rd w (.slice T o.text.length tc) o.text
  ents : RdK w (.slice E o.ents.length ec) o.ents.length (cellsE o.ents)
  pars : RdK w (.slice P o.pars.length pc) o.pars.length (cellsP o.pars)
theorem ObC.below {w w' : World} {o : Ob} {cs : Array Value} {T E P : Option Addr} {tc ec pc : Nat} (h : ObC w o cs T tc E ec P pc) {B : Nat} (hb : Below B w w') (hB : w.heap.size ≤ B) : ObC w' o cs T tc E ec P pc :=
  ⟨h.cells, h.text.below hb hB, h.ents.below hb hB, h.pars.below hb hB⟩
section
variable {w : World} {o : Ob} {cs : Array Value} {T E P : Option Addr} {tc ec pc : Nat}
theorem ObC.size (h : ObC w o cs T tc E ec P pc) (hf : o.Fit) : cs.size = 36 := by
  rw [h.cells]; simp [cellsB_len, hf.target.1]
theorem ObC.c0 (h : ObC w o cs T tc E ec P pc) : cs[0]? = some (.int .i64 o.kind) := by rw [h.cells]; rfl
theorem ObC.c1 (h : ObC w o cs T tc E ec P pc) : cs[1]? = some (.slice T o.text.length tc) := by rw [h.cells]; rfl
theorem ObC.c2 (h : ObC w o cs T tc E ec P pc) : cs[2]? = some (.slice E o.ents.length ec) := by rw [h.cells]; rfl
theorem ObC.c35 (h : ObC w o cs T tc E ec P pc) (hf : o.Fit) : cs[35]? = some (.slice P o.pars.length pc) := by
  rw [h.cells]
  rw [List.getElem?_toArray, show (35 : Nat) = 32 + 1 + 1 + 1 from rfl, List.getElem?_cons_succ, List.getElem?_cons_succ, List.getElem?_cons_succ, List.getElem?_append_right (by rw [cellsB_len, hf.target.1]; omega), cellsB_len, hf.target.1]
  rfl
/-- The target's cells in a block that holds the object. -/
theorem ObC.mid (h : ObC w o cs T tc E ec P pc) {wb : World} {g : Nat} {t : TypeId} (hB : Blk wb g t cs) : wb.rangeAt g 3 (cellsB o.target) := fun j u hu => by
  rw [hB.cell, h.cells]
  rw [List.getElem?_toArray, show 3 + j = j + 1 + 1 + 1 by omega, List.getElem?_cons_succ, List.getElem?_cons_succ, List.getElem?_cons_succ, List.getElem?_append_left (List.getElem?_eq_some_iff.1 hu).1, hu]
end
end Go.Proofs.YtjkneidoochfjaaGreatDoor
/- Arguments of laws, opened: objects. -/
namespace Go.Proofs.YtjkneidoochfjaaGreatDoor
open Go Go.RowKit Go.WideShapes Go.ChangeShapes
section
variable {H : Type} {enc : TypeId × Value → H} {P : Program} {W : World} {base : Nat} {sp : Nat → Bool} {held : Bool} {t e : TypeId} {n : Nat}
theorem trod_id (ht : P.underlying t = some (.array n e)) (he : P.underlying e = some (.int .u8)) (h1 : P.cellsOf e = 1) (hn : P.cellsOf t = n) {fuel : Nat} {cs : List Value} {y : DataW H × List MemPlace}
    (hf : DataW.trod enc P W base sp held fuel t cs = some y) : ∃ xs : List Nat, cs = cellsB xs ∧ xs.length = n ∧ Sha.Byte xs := by
  cases fuel with
  | zero => simp [DataW.trod] at hf
  | succ m =>
    rw [DataW.trod_step] at hf
    unfold DataW.trodStep at hf
    simp only [ht] at hf
    by_cases hz : cs.length = P.cellsOf t
    · rw [if_pos hz] at hf
      simp only [Option.map_eq_some_iff] at hf
      obtain ⟨ys, hy, _⟩ := hf
      rw [h1] at hy
      rw [hn] at hz
      have hall := mapM_u8 he _ _ hy
      have hget : ∀ i, i < n → ∃ a : Nat, a < 256 ∧ cs[i]? = some (.int .u8 (a : Int)) := fun i hi => by
        obtain ⟨a, ha, hc⟩ := hall i (List.mem_range.2 hi)
        refine ⟨a, ha, ?_⟩
        have := congrArg (fun l => l[0]?) hc
        simpa [List.getElem?_take, List.getElem?_drop] using this
      let f : Value → Nat := fun v => match v with | .int _ a => a.toNat | _ => 0
      refine ⟨cs.map f, ?_, by rw [List.length_map, hz], ?_⟩
      · unfold cellsB
        rw [List.map_map]
        apply List.ext_getElem?
        intro i
        rcases Nat.lt_or_ge i n with hi | hi
        · obtain ⟨a, ha, hc⟩ := hget i hi
          rw [List.getElem?_map, hc]
          simp [f]
        · rw [List.getElem?_eq_none (by omega), List.getElem?_eq_none (by rw [List.length_map]; omega)]
      · intro i
        rcases Nat.lt_or_ge i n with hi | hi
        · obtain ⟨a, ha, hc⟩ := hget i hi
          simp [List.getD, List.getElem?_map, hc, f, ha]
        · simp [List.getD, List.getElem?_eq_none (show cs.length ≤ i by omega)]
    · rw [if_neg hz] at hf
      cases hf
theorem mapM_cellsK {w : World} {a : Addr} : ∀ (L : List Nat) (cs : List Value), L.mapM (fun i => w.cell? (a.add i)) = some cs → ∀ j, j < L.length → ∃ v, cs[j]? = some v ∧ w.cell? (a.add (L.getD j 0)) = some v
  | [], _, _, j, hj => by simp at hj
  | i :: L, cs, h, j, hj => by
    rw [List.mapM_cons] at h
    simp only [bind, Option.bind_eq_some_iff, pure, Option.some.injEq] at h
    obtain ⟨y, hy, ys, hys, rfl⟩ := h
    cases j with
    | zero => exact ⟨y, rfl, by simpa using hy⟩
    | succ j =>
      obtain ⟨v, h1, h2⟩ := mapM_cellsK L ys hys j (by simpa using hj)
      exact ⟨v, by simpa using h1, by simpa using h2⟩

/-- Elements of k cells each that were read one by one. -/
theorem rdk_of {α : Type} (f : α → List Value) (k : Nat) (good : α → Prop) (hk : ∀ x, good x → (f x).length = k) (hk0 : 0 < k) (a : Addr) (len cap : Nat) (hl : len ≤ cap)
    (hx : ∀ i, i < len → ∃ x, good x ∧ ∀ j u, (f x)[j]? = some u → W.cell? ((a.add (i * k)).add j) = some u) :
    ∃ xs : List α, xs.length = len ∧ (∀ x ∈ xs, good x) ∧ RdK W (.slice (some a) len cap) len (xs.flatMap f) := by
  let g : Fin len → α := fun i => Classical.choose (hx i.1 i.2)
  have hg : ∀ i : Fin len, good (g i) ∧ ∀ j u, (f (g i))[j]? = some u → W.cell? ((a.add (i.1 * k)).add j) = some u := fun i => Classical.choose_spec (hx i.1 i.2)
  have hl2 : (List.ofFn g).length = len := List.length_ofFn
  have hgood : ∀ x ∈ List.ofFn g, good x := fun x hm => by
    obtain ⟨i, hi, rfl⟩ := List.mem_iff_getElem.1 hm
    rw [List.getElem_ofFn]
    exact (hg _).1
  have hfl := fun x hm => hk x (hgood x hm)
  refine ⟨List.ofFn g, hl2, hgood, some a, cap, rfl, hl, fun h0 => ?_⟩
  obtain ⟨b, o, s⟩ := a
  have hz := hg ⟨0, h0⟩
  have hc0 := hz.2 0 ((f (g ⟨0, h0⟩))[0]'(by rw [hk _ hz.1]; exact hk0)) (List.getElem?_eq_getElem _)
  have e0 : ((⟨b, o, s⟩ : Addr).add (0 * k)).add 0 = ⟨b, o, s⟩ := by simp [Addr.add]
  rw [e0] at hc0
  obtain rfl := spot_free hc0
  refine ⟨b, o, rfl, block_lt_of_cell hc0, fun j u hu => ?_⟩
  have hj : j < len * k := by
    have h := (List.getElem?_eq_some_iff.1 hu).1
    rwa [flat_len f k _ hfl, hl2] at h
  have hi : j / k < len := Nat.div_lt_of_lt_mul (by rw [Nat.mul_comm]; exact hj)
  have hm : j % k < k := Nat.mod_lt _ hk0
  have hjj : k * (j / k) + j % k = j := Nat.div_add_mod j k
  have hget := flat_get f k (List.ofFn g) hfl (j / k) (by rw [hl2]; exact hi) (j % k) hm
  rw [hjj, hu, List.getElem_ofFn] at hget
  have h := (hg ⟨j / k, hi⟩).2 (j % k) u hget.symm
  rw [Addr.add_mid, Addr.add_mid] at h
  rw [show o + j = o + j / k * k + j % k by rw [Nat.mul_comm]; omega]
  exact h
theorem cells_at {w : World} {a : Addr} {n : Nat} {cs : List Value} (h : w.cells? 0 a n = some cs) : ∀ j u, cs[j]? = some u → j < n → w.cell? (a.add j) = some u := fun j u hu hj => by
  unfold World.cells? at h
  split at h
  · obtain ⟨u', h1, h2⟩ := mapM_cellsK _ _ h j (by simpa using hj)
    rw [hu] at h1
    obtain rfl := Option.some.inj h1
    have e : (List.range n).getD j 0 = j := by simp [List.getD, hj]
    rwa [e] at h2
  · cases h
theorem one_of {l : List Value} {i : Nat} (h : i < l.length) : (l.drop i).take 1 = [l[i]] := by
  rw [List.drop_eq_getElem_cons h]; rfl
end
end Go.Proofs.YtjkneidoochfjaaGreatDoor
/- Rows of ids, and of entries, compared (slices.Equal). -/
namespace Go.Proofs.YtjkneidoochfjaaGreatDoor
open Go Go.RowKit
theorem size_u8 (w : World) : (sizeOf 5).run Tryz.prog w = .ok 1 w := by simp [Tryz.sizeOf5]
theorem id_eq (w : World) (x y : List Nat) (hx : Id32 x) (hy : Id32 y) : (Op.equalIn 10000 54 (.agg (cellsB x).toArray) (.agg (cellsB y).toArray)).run Tryz.prog w = .ok (eqv x y) w :=
  beq_eqv x y ▸ run_equalIn_u8s w 54 5 32 Tryz.underlying54 Tryz.underlying5 size_u8 x y hx.1 hy.1 hx.2 hy.2
theorem take_all {α : Type} {xs ys : List α} {k : Nat} (h1 : k < xs.length) (h2 : k < ys.length) (h : xs.take k = ys.take k) (e : xs[k] = ys[k]) : xs.take (k + 1) = ys.take (k + 1) := by
  rw [List.take_succ_eq_append_getElem h1, List.take_succ_eq_append_getElem h2, h, e]
end Go.Proofs.YtjkneidoochfjaaGreatDoor
/- Entries compared, alone and in rows. -/
namespace Go.Proofs.YtjkneidoochfjaaGreatDoor
open Go Go.RowKit
theorem id_eq9 (d : Nat) (w : World) (x y : List Nat) (hx : Id32 x) (hy : Id32 y) : (Op.equalIn (d + 2) 54 (.agg (cellsB x).toArray) (.agg (cellsB y).toArray)).run Tryz.prog w = .ok (eqv x y) w := by
  rw [← beq_eqv, ← ofNat_inj x y hx.2 hy.2]
  have h := run_equalIn_bytes w d 54 5 32 Tryz.underlying54 Tryz.underlying5 size_u8 (x.map UInt8.ofNat) (y.map UInt8.ofNat) (by rw [List.length_map, hx.1]) (by rw [List.length_map, hy.1])
  rw [← u8s_cell x hx.2, ← u8s_cell y hy.2] at h
  exact h
theorem toList_inj {a b : ByteArray} : (a.toList == b.toList) = eqv a b := by
  rw [Bool.eq_iff_iff, beq_iff_eq, eqv_iff, ByteArray.toList_eq, ByteArray.toList_eq]
  refine ⟨fun h => ?_, fun h => by rw [h]⟩
  obtain ⟨⟨x⟩⟩ := a
  obtain ⟨⟨y⟩⟩ := b
  have h : x = y := h
  rw [h]
theorem eqf_true {P : Program} {w : World} {d : Nat} {xs ys : Array Value} {f : Field} {fs : List Field} (hn : f.name ≠ "_") {t : TypeId} {o : Nat} (ht : f.type = t) (ho : f.offset = o) {a b : Value}
    (ha : (part t xs o).run P w = .ok a w) (hb : (part t ys o).run P w = .ok b w) (he : (Op.equalIn d t a b).run P w = .ok true w) : (Op.eqFields d xs ys (f :: fs)).run P w = (Op.eqFields d xs ys fs).run P w := by
  subst ht ho
  rw [Op.eqFields, if_pos hn]
  simp only [Sem.run_bind, ha, hb, he, Result.andThen_ok]
  rfl
theorem eqf_false {P : Program} {w : World} {d : Nat} {xs ys : Array Value} {f : Field} {fs : List Field} (hn : f.name ≠ "_") {t : TypeId} {o : Nat} (ht : f.type = t) (ho : f.offset = o) {a b : Value}
    (ha : (part t xs o).run P w = .ok a w) (hb : (part t ys o).run P w = .ok b w) (he : (Op.equalIn d t a b).run P w = .ok false w) : (Op.eqFields d xs ys (f :: fs)).run P w = .ok false w := by
  subst ht ho
  rw [Op.eqFields, if_pos hn]
  simp only [Sem.run_bind, ha, hb, he, Result.andThen_ok]
  rfl
end Go.Proofs.YtjkneidoochfjaaGreatDoor
/- Updates of refs: how they lie, and compared. -/
namespace Go.Proofs.YtjkneidoochfjaaGreatDoor
open Go Go.RowKit
namespace En
/-- an update of a ref -/
structure Up where
  ref : ByteArray
  old : List Nat
  new : List Nat
def Up.Fit (u : Up) : Prop := Id32 u.old ∧ Id32 u.new
end En
def cellsU1 (u : En.Up) : List Value := .string u.ref :: (cellsB u.old ++ cellsB u.new)
def cellsU (us : List En.Up) : List Value := us.flatMap cellsU1
theorem cellsU1_len {u : En.Up} (h : u.Fit) : (cellsU1 u).length = 65 := by
  simp [cellsU1, cellsB_len, h.1.1, h.2.1]
theorem RdK.up {w : World} {A : Option Addr} {n c : Nat} {us : List En.Up} (h : RdK w (.slice A n c) n (cellsU us)) (hn : n = us.length) (hf : ∀ u ∈ us, u.Fit) {k : Nat} (hk : k < us.length) :
    ∃ b o, A = some ⟨b, o, none⟩ ∧ b < w.heap.size ∧ w.rangeAt b (o + k * 65) (cellsU1 us[k]) := by
  obtain ⟨A', c', hv, hc, hA⟩ := h
  injection hv with e1 e2 e3
  subst e1
  obtain ⟨b, o, ha, hl, hx⟩ := hA (by omega)
  refine ⟨b, o, ha, hl, fun j u hu => ?_⟩
  have hj : j < 65 := by have := (List.getElem?_eq_some_iff.1 hu).1; rwa [cellsU1_len (hf _ (List.getElem_mem _))] at this
  rw [Nat.add_assoc]
  refine hx (k * 65 + j) u ?_
  rw [cellsU, Nat.mul_comm k 65, flat_get cellsU1 65 us (fun e he => cellsU1_len (hf e he)) k hk j hj, hu]
theorem up_ref (w : World) (u : En.Up) : (part 9 (cellsU1 u).toArray 0).run Tryz.prog w = .ok (.string u.ref) w := by
  simp [part, isAgg, run_underlying Tryz.underlying9, cellsU1]
theorem up_old (w : World) (u : En.Up) (h : u.Fit) : (part 54 (cellsU1 u).toArray 1).run Tryz.prog w = .ok (.agg (cellsB u.old).toArray) w := by
  have hx : List.take 32 (cellsU1 u).tail = cellsB u.old := by
    rw [cellsU1, List.tail_cons, List.take_append_of_le_length (by rw [cellsB_len, h.1.1]; omega), List.take_of_length_le (by rw [cellsB_len, h.1.1]; omega)]
  have hs : (cellsU1 u).toArray.size = 65 := by rw [List.size_toArray, cellsU1_len h]
  simp [part, isAgg, run_underlying Tryz.underlying54, Tryz.sizeOf54, hx, hs]
theorem up_new (w : World) (u : En.Up) (h : u.Fit) : (part 54 (cellsU1 u).toArray 33).run Tryz.prog w = .ok (.agg (cellsB u.new).toArray) w := by
  have hx : List.take 32 (List.drop 33 (cellsU1 u)) = cellsB u.new := by
    rw [cellsU1, List.drop_succ_cons, List.drop_append_of_le_length (by rw [cellsB_len, h.1.1]; omega), List.drop_of_length_le (by rw [cellsB_len, h.1.1]; omega), List.nil_append, List.take_of_length_le (by rw [cellsB_len, h.2.1]; omega)]
  have hs : (cellsU1 u).toArray.size = 65 := by rw [List.size_toArray, cellsU1_len h]
  simp [part, isAgg, run_underlying Tryz.underlying54, Tryz.sizeOf54, hx, hs]
theorem up_fields (w : World) (k : Nat) (f0 f1 f2 : Field) (n0 : f0.name ≠ "_") (n1 : f1.name ≠ "_") (n2 : f2.name ≠ "_") (t0 : f0.type = 9) (o0 : f0.offset = 0) (t1 : f1.type = 54) (o1 : f1.offset = 1) (t2 : f2.type = 54) (o2 : f2.offset = 33)
    (d e : En.Up) (hd : d.Fit) (he : e.Fit) : (Op.eqFields (k + 2) (cellsU1 d).toArray (cellsU1 e).toArray [f0, f1, f2]).run Tryz.prog w = .ok (eqv d e) w := by
  have k5 := run_equalIn_string (P := Tryz.prog) w (k + 1) 9 d.ref e.ref Tryz.underlying9
  rw [toList_inj] at k5
  have k6 := id_eq9 k w d.old e.old hd.1 he.1
  have k7 := id_eq9 k w d.new e.new hd.2 he.2
  by_cases h1 : d.ref = e.ref
  · rw [eqv_true h1] at k5
    rw [eqf_true n0 t0 o0 (up_ref w d) (up_ref w e) k5]
    by_cases h2 : d.old = e.old
    · rw [eqv_true h2] at k6
      rw [eqf_true n1 t1 o1 (up_old w d hd) (up_old w e he) k6]
      by_cases h3 : d.new = e.new
      · have h4 : d = e := by
          obtain ⟨a1, a2, a3⟩ := d
          obtain ⟨b1, b2, b3⟩ := e
          dsimp only at h1 h2 h3
          rw [h1, h2, h3]
        rw [eqv_true h3] at k7
        rw [eqv_true h4, eqf_true n2 t2 o2 (up_new w d hd) (up_new w e he) k7]
        rfl
      · have h4 : d ≠ e := fun h => h3 (by rw [h])
        rw [eqv_false h3] at k7
        rw [eqv_false h4, eqf_false n2 t2 o2 (up_new w d hd) (up_new w e he) k7]
    · have h4 : d ≠ e := fun h => h2 (by rw [h])
      rw [eqv_false h2] at k6
      rw [eqv_false h4, eqf_false n1 t1 o1 (up_old w d hd) (up_old w e he) k6]
  · have h4 : d ≠ e := fun h => h1 (by rw [h])
    rw [eqv_false h1] at k5
    rw [eqv_false h4, eqf_false n0 t0 o0 (up_ref w d) (up_ref w e) k5]
theorem up_eq_of (w : World) (t : TypeId) (ht : Tryz.prog.underlying t = some (.struct (Tryz.prog.fieldsOf t))) (hp : Tryz.prog.stoodInHeld t = false) (k : Nat) (hF : (Tryz.prog.fieldsOf t).toList.map (fun f => (f.name == "_", f.type, f.offset)) = [(false, 9, 0), (false, 54, 1), (false, 54, 33)])
    (d e : En.Up) (hd : d.Fit) (he : e.Fit) : (Op.equalIn (k + 3) t (.agg (cellsU1 d).toArray) (.agg (cellsU1 e).toArray)).run Tryz.prog w = .ok (eqv d e) w := by
  rw [run_equalIn_struct w (k + 2) t _ _ ht hp]
  generalize (Tryz.prog.fieldsOf t).toList = L at hF
  rcases L with _ | ⟨f0, _ | ⟨f1, _ | ⟨f2, _ | ⟨f3, L⟩⟩⟩⟩
  · simp at hF
  · simp at hF
  · simp at hF
  · simp only [List.map_cons, List.map_nil, List.cons.injEq, Prod.mk.injEq, and_true] at hF
    obtain ⟨⟨n0, t0, o0⟩, ⟨n1, t1, o1⟩, n2, t2, o2⟩ := hF
    exact up_fields w k f0 f1 f2 (beq_eq_false_iff_ne.1 n0) (beq_eq_false_iff_ne.1 n1) (beq_eq_false_iff_ne.1 n2) t0 o0 t1 o1 t2 o2 d e hd he
  · simp at hF
theorem up_eq (w : World) (d e : En.Up) (hd : d.Fit) (he : e.Fit) : (Op.equalIn 10000 56 (.agg (cellsU1 d).toArray) (.agg (cellsU1 e).toArray)).run Tryz.prog w = .ok (eqv d e) w :=
  up_eq_of w 56 (by kernel_rfl) (by kernel_rfl) 9997 (by kernel_rfl) d e hd he
end Go.Proofs.YtjkneidoochfjaaGreatDoor
/- Rows of updates compared (slices.Equal). -/
namespace Go.Proofs.YtjkneidoochfjaaGreatDoor
open Go Go.RowKit
set_option maxRecDepth 100000 in
set_option maxHeartbeats 1000000 in
theorem eqU_any (A B : Option Addr) (c d : Nat) (xs ys : List En.Up) (w : World) (hx : RdK w (.slice A xs.length c) xs.length (cellsU xs)) (hy : RdK w (.slice B ys.length d) ys.length (cellsU ys)) (fx : ∀ x ∈ xs, x.Fit) (fy : ∀ x ∈ ys, x.Fit) (lx : xs.length ≤ 1000) :
    Calls Tryz.prog 34 #[.slice A xs.length c, .slice B ys.length d] w fun e w' => e = .returned (.bool (eqv xs ys)) ∧ ∃ m, w' = w.drewN m := by
  have HX := Lib.hid hx
  have HY := Lib.hid hy
  clear hx hy
  by_cases hl : xs.length = ys.length
  · have b0 : ((xs.length : Int) != (ys.length : Int)) = false := by simp; omega
    have HL := Lib.hid hl
    clear hl
    go_enter Tryz.func34, Tryz.ntmps34
    go_wp2
    go_loopw [13] (fun i wr => ∃ k n : Nat, k ≤ xs.length ∧ i = .int .i64 k ∧ Hid (xs.take k = ys.take k) ∧ wr = w.drewN n) (fun i _ => xs.length - (intOf i).toNat)
    case atStart => exact ⟨0, 0, Nat.zero_le _, rfl, Lib.hid rfl, rfl⟩
    case round =>
      obtain ⟨k, n, hk, rfl, HT, rfl⟩ := hrel
      by_cases hlt : k < xs.length
      · have hlt2 : k < ys.length := by rw [← HL.out]; exact hlt
        obtain ⟨b1, o1, rfl, _, g1⟩ := HX.out.up rfl fx hlt
        obtain ⟨b2, o2, rfl, _, g2⟩ := HY.out.up rfl fy hlt2
        have l1 : ∀ m, (Instr.loadAt 56 (.pointer (some ⟨b1, o1 + k * 65, none⟩))).run Tryz.prog (w.drewN m) = .ok (.agg (cellsU1 xs[k]).toArray) (w.drewN m) := fun m => run_loadAt_mid (w.drewN m) b1 (o1 + k * 65) 56 _ _ g1 Tryz.underlying56 rfl (by rw [cellsU1_len (fx _ (List.getElem_mem _))]; kernel_rfl)
        have l2 : ∀ m, (Instr.loadAt 56 (.pointer (some ⟨b2, o2 + k * 65, none⟩))).run Tryz.prog (w.drewN m) = .ok (.agg (cellsU1 ys[k]).toArray) (w.drewN m) := fun m => run_loadAt_mid (w.drewN m) b2 (o2 + k * 65) 56 _ _ g2 Tryz.underlying56 rfl (by rw [cellsU1_len (fy _ (List.getElem_mem _))]; kernel_rfl)
        have q0 : ∀ m, (Op.equalIn 10000 56 (.agg (cellsU1 xs[k]).toArray) (.agg (cellsU1 ys[k]).toArray)).run Tryz.prog (w.drewN m) = .ok (eqv xs[k] ys[k]) (w.drewN m) := fun m => up_eq _ _ _ (fx _ (List.getElem_mem _)) (fy _ (List.getElem_mem _))
        have HS := Lib.hid (show xs[k] = ys[k] → xs.take (k + 1) = ys.take (k + 1) from take_all hlt hlt2 HT.out)
        have HNE := Lib.hid (show xs[k] ≠ ys[k] → eqv xs ys = false from fun h => eqv_false fun e => by subst e; exact h rfl)
        generalize xs[k] = x at l1 q0 HS HNE
        generalize ys[k] = y at l2 q0 HS HNE
        clear g1 g2
        have i0 : ((k : Nat) : Int) < xs.length := by omega
        have i1 : (0 : Int) ≤ ((k : Nat) : Int) := by omega
        have i2 : ((k : Nat) : Int) < ys.length := by omega
        generalize (cellsU1 x).toArray = cx at l1 q0
        generalize (cellsU1 y).toArray = cy at l2 q0
        rcases Classical.em (x = y) with e | e
        · have HN := Lib.hid (HS.out e)
          have hb : eqv x y = true := eqv_true e
          rw [hb] at q0
          have HQ := Lib.hid q0
          clear HS HNE e hb q0
          go_wp2
          refine wp_region_quiet_lit (by kernel_rfl) (by kernel_rfl) ?_
          repeat (first
            | go_big_quiet_step (fail)
            | (go_big_quiet_want; refine quiet_load 56 (.tmp 18) rfl _ rfl _ (by rintro _ ⟨m, rfl⟩; rw [World.drewN_drewN]; exact l1 _) ?_; go_big_quiet_on; simp only [Act.put, List.setIfInBounds_toArray, List.set_cons_zero, List.set_cons_succ])
            | (go_big_quiet_want; refine quiet_load 56 (.tmp 22) rfl _ rfl _ (by rintro _ ⟨m, rfl⟩; rw [World.drewN_drewN]; exact l2 _) ?_; go_big_quiet_on; simp only [Act.put, List.setIfInBounds_toArray, List.set_cons_zero, List.set_cons_succ])
            | (go_big_quiet_want; refine quiet_ne 56 (.tmp 19) (.tmp 23) _ rfl cx cy rfl rfl (by kernel_rfl) true (by rintro _ ⟨m, rfl⟩; rw [World.drewN_drewN]; exact HQ.out _) ?_; go_big_quiet_on; simp only [Act.put, List.setIfInBounds_toArray, List.set_cons_zero, List.set_cons_succ]))
          refine wpQuiet_nil ?_
          rintro _ ⟨nq, rfl⟩
          go_wp2
          go_roundw
          case rel => exact ⟨k + 1, n + nq, by omega, by go_num, HN, by simp⟩
          case measure => simp [intOf]; omega
        · have HN := Lib.hid (HNE.out e)
          have hb : eqv x y = false := eqv_false e
          rw [hb] at q0
          have HQ := Lib.hid q0
          clear HS HNE e hb q0
          go_wp2
          refine wp_region_quiet_lit (by kernel_rfl) (by kernel_rfl) ?_
          repeat (first
            | go_big_quiet_step (fail)
            | (go_big_quiet_want; refine quiet_load 56 (.tmp 18) rfl _ rfl _ (by rintro _ ⟨m, rfl⟩; rw [World.drewN_drewN]; exact l1 _) ?_; go_big_quiet_on; simp only [Act.put, List.setIfInBounds_toArray, List.set_cons_zero, List.set_cons_succ])
            | (go_big_quiet_want; refine quiet_load 56 (.tmp 22) rfl _ rfl _ (by rintro _ ⟨m, rfl⟩; rw [World.drewN_drewN]; exact l2 _) ?_; go_big_quiet_on; simp only [Act.put, List.setIfInBounds_toArray, List.set_cons_zero, List.set_cons_succ])
            | (go_big_quiet_want; refine quiet_ne 56 (.tmp 19) (.tmp 23) _ rfl cx cy rfl rfl (by kernel_rfl) false (by rintro _ ⟨m, rfl⟩; rw [World.drewN_drewN]; exact HQ.out _) ?_; go_big_quiet_on; simp only [Act.put, List.setIfInBounds_toArray, List.set_cons_zero, List.set_cons_succ]))
          refine wpQuiet_nil ?_
          rintro _ ⟨nq, rfl⟩
          go_wp2
          go_ret
          exact ⟨by rw [HN.out]; rfl, _, by simp; rfl⟩
      · have H : Hid (eqv xs ys = true) := Lib.hid (eqv_true (by
          have h := HT.out
          rw [List.take_of_length_le (by omega), List.take_of_length_le (by rw [← HL.out]; omega)] at h
          exact h))
        go_wp2
        go_ret
        exact ⟨by rw [H.out]; rfl, n, rfl⟩
  · have b0 : ((xs.length : Int) != (ys.length : Int)) = true := by simp; omega
    have HN := Lib.hid (show eqv xs ys = false from eqv_false fun e => by subst e; exact hl rfl)
    clear hl
    go_enter Tryz.func34, Tryz.ntmps34
    go_wp2
    go_ret
    exact ⟨by rw [HN.out]; rfl, 0, rfl⟩
end Go.Proofs.YtjkneidoochfjaaGreatDoor
/- Rows of entries compared (slices.Equal). -/
namespace Go.Proofs.YtjkneidoochfjaaGreatDoor
open Go Go.RowKit
end Go.Proofs.YtjkneidoochfjaaGreatDoor
/- Two objects compared (object.Same). -/
namespace Go.Proofs.YtjkneidoochfjaaGreatDoor
open Go Go.RowKit
/-- A load in the middle of a block, in a region that keeps its order, whatever its guard, if it is carried out. -/
theorem wpList_mid_w {P : Program} {ops : Array Oper} {rest : List Oper} {op : Oper} {a : Act} {w : World} {Q : Exit → Act → World → Prop} (hw : Region.wanted op (yielded ops a.tmps) = true) (ty : TypeId) (x : Operand) (ho : op.op = .load ty x)
    (b o : Nat) (hx : a.eval x = .pointer (some ⟨b, o, none⟩)) (cs : List Value) (d : TypeDesc) (hc : w.rangeAt b o cs)
    (hu : P.underlying ty = some d) (hd : d.isRow = true) (hi : (P.info? ty).map (·.size) = some cs.length)
    (h : wpList P ops Q rest (a.put op.dst (.agg cs.toArray)) w) : wpList P ops Q (op :: rest) a w :=
  wpList_step fun K hK => by
    simp only [hw, if_true]
    exact wp_load_mid ty x ho b o hx cs d hc hu hd hi (hK _ _ h)
theorem textOf_eqv {xs ys : List Nat} (hx : Sha.Byte xs) (hy : Sha.Byte ys) : ((textOf xs).toList == (textOf ys).toList) = eqv xs ys := by
  rw [← beq_eqv, ← ofNat_inj xs ys hx hy, ByteArray.toList_eq, ByteArray.toList_eq]
  rfl
theorem beqB_any (u v : Value) (xs ys : List Nat) (w : World) (hu : Rd w u xs) (hv : Rd w v ys) (hx : Sha.Byte xs) (hy : Sha.Byte ys) :
    Calls Tryz.prog 36 #[u, v] w fun e w' => e = .returned (.bool (eqv xs ys)) ∧ w = w' := by
  have q1 := conv_rd hu
  have q2 := conv_rd hv
  have q3 := Lib.hid (textOf_eqv hx hy)
  clear hu hv hx hy
  go_enter Tryz.func36, Tryz.ntmps36
  go_wp2
  go_ret
  refine ⟨?_, rfl⟩
  rw [← q3.out]; rfl
theorem boxed {w : World} (c1 c2 : Array Value) (t : TypeId) : Below w.heap.size w ((w.alloc (.cells c1 t)).alloc (.cells c2 t)) :=
  ((Below.refl _ _).alloc (Nat.le_refl _) _).alloc (((Below.refl _ _).alloc (Nat.le_refl _) _).size) _
theorem boxed2 {w : World} (c1 c2 : Array Value) (t : TypeId) : Blk ((w.alloc (.cells c1 t)).alloc (.cells c2 t)) (w.heap.size + 1) t c2 := by
  have h := Blk.new (w.alloc (.cells c1 t)) t c2
  rwa [show (w.alloc (.cells c1 t)).heap.size = w.heap.size + 1 by simp] at h
end Go.Proofs.YtjkneidoochfjaaGreatDoor
/- Rows of texts compared (slices.EqualFunc with bytes.Equal). -/
namespace Go.Proofs.YtjkneidoochfjaaGreatDoor
open Go Go.RowKit
namespace En
/-- a text, and where it lies -/
structure Bt where
  text : List Nat
  val : Value
end En
/-- texts in a list -/
structure BtT (w : World) (A : Option Addr) (n : Nat) (ts : List En.Bt) : Prop where
  len : n = ts.length
  row : 0 < n → ∃ b o, A = some ⟨b, o, none⟩ ∧ b < w.heap.size ∧ ∀ i t, ts[i]? = some t → w.cell? ⟨b, o + i, none⟩ = some t.val
  rd : ∀ t ∈ ts, Rd w t.val t.text ∧ Sha.Byte t.text
theorem BtT.below {w w' : World} {A : Option Addr} {n : Nat} {ts : List En.Bt} (h : BtT w A n ts) (hb : Below w.heap.size w w') : BtT w' A n ts :=
  ⟨h.len, fun h0 => by
    obtain ⟨b, o, ha, hl, hx⟩ := h.row h0
    exact ⟨b, o, ha, Nat.lt_of_lt_of_le hl hb.size, fun i t ht => (hb.cell (p := ⟨b, _, none⟩) hl).trans (hx i t ht)⟩, fun t ht => ⟨(h.rd t ht).1.below hb (Nat.le_refl _), (h.rd t ht).2⟩⟩
theorem map_take_next {ts us : List En.Bt} {k : Nat} (h1 : k < ts.length) (h2 : k < us.length) (h : (ts.take k).map (·.text) = (us.take k).map (·.text)) (e : ts[k].text = us[k].text) : (ts.take (k + 1)).map (·.text) = (us.take (k + 1)).map (·.text) := by
  rw [List.take_succ_eq_append_getElem h1, List.take_succ_eq_append_getElem h2, List.map_append, List.map_append, h]
  simp [e]
theorem eg_beq (args : Array Value) (w : World) : (callFunc 36 args).run Tryz.prog w = .ok (.enter 36 args) w := by kernel_rfl
set_option maxRecDepth 100000 in
set_option maxHeartbeats 1000000 in
theorem eqT_any (A B : Option Addr) (n m c d : Nat) (ts us : List En.Bt) (w : World) (ht : BtT w A n ts) (hu : BtT w B m us) (hn : n ≤ 100000) :
    Calls Tryz.prog 35 #[.slice A n c, .slice B m d, .func (.func 36) #[] #[]] w fun e w' => e = .returned (.bool (eqv (ts.map (·.text)) (us.map (·.text)))) ∧ w' = w := by
  have HT := Lib.hid ht
  have HU := Lib.hid hu
  by_cases hl : n = m
  · have b0 : ((n : Int) != (m : Int)) = false := by simp; omega
    subst hl
    have HN := Lib.hid hn
    clear ht hu hn
    go_enter Tryz.func35, Tryz.ntmps35
    go_wp2
    go_loopw [17] (fun i wr => wr = w ∧ ∃ k : Nat, k ≤ n ∧ i = .int .i64 k ∧ Hid ((ts.take k).map (·.text) = (us.take k).map (·.text))) (fun i _ => n - (intOf i).toNat)
    case atStart => exact ⟨rfl, 0, Nat.zero_le _, rfl, Lib.hid rfl⟩
    case round =>
      obtain ⟨rfl, k, hk, rfl, HK⟩ := hrel
      rcases Nat.lt_or_ge k n with hlt | hlt
      rotate_left
      · obtain rfl : k = n := by omega
        have ik : ¬ ((k : Nat) : Int) < k := by omega
        have HF : Hid (eqv (ts.map (·.text)) (us.map (·.text)) = true) := Lib.hid (eqv_true (by
          have h := HK.out
          rw [List.take_of_length_le (by rw [← HT.out.len]; exact Nat.le_refl _), List.take_of_length_le (by rw [← HU.out.len]; exact Nat.le_refl _)] at h
          exact h))
        clear hk hlt
        go_wp2
        go_ret
        exact ⟨by rw [HF.out]; rfl, rfl⟩
      have h1 : k < ts.length := by rw [← HT.out.len]; exact hlt
      have h2 : k < us.length := by rw [← HU.out.len]; exact hlt
      obtain ⟨b1, o1, rfl, _, g1⟩ := HT.out.row (by omega)
      obtain ⟨b2, o2, rfl, _, g2⟩ := HU.out.row (by omega)
      have c1 := g1 k ts[k] (List.getElem?_eq_getElem h1)
      have c2 := g2 k us[k] (List.getElem?_eq_getElem h2)
      obtain ⟨r1, y1⟩ := HT.out.rd ts[k] (List.getElem_mem h1)
      obtain ⟨r2, y2⟩ := HU.out.rd us[k] (List.getElem_mem h2)
      have CE := beqB_any _ _ _ _ wr r1 r2 y1 y2
      have HS := Lib.hid (fun e => map_take_next h1 h2 HK.out e)
      have HNE := Lib.hid (show ts[k].text ≠ us[k].text → eqv (ts.map (·.text)) (us.map (·.text)) = false from fun hne => eqv_false fun e => hne (by
        have h3 := congrArg (fun l => l[k]?) e
        simpa [List.getElem?_eq_getElem h1, List.getElem?_eq_getElem h2] using h3))
      generalize ts[k] = t at c1 r1 y1 CE HS HNE
      generalize us[k] = u at c2 r2 y2 CE HS HNE
      obtain ⟨A1, e1, hv1, _, _⟩ := r1
      obtain ⟨A2, e2, hv2, _, _⟩ := r2
      rw [hv1] at c1 CE
      rw [hv2] at c2 CE
      have i0 : ((k : Nat) : Int) < n := by omega
      have i1 : (0 : Int) ≤ ((k : Nat) : Int) := by omega
      have i2 : ((n : Nat) : Int) ≤ 100000 := by have := HN.out; omega
      have HLT := Lib.hid hlt
      have eg := eg_beq
      clear g1 g2 y1 y2 hv1 hv2 h1 h2 hk hlt
      go_wp2_with (go_at_call 36; refine pause ?_)
      unfold Paused
      refine CE.mono ?_
      rintro e w9 ⟨rfl, rfl⟩
      clear CE
      rcases Classical.em (t.text = u.text) with e | e
      · have HKN := Lib.hid (HS.out e)
        rw [eqv_true e]
        clear e HS HNE
        go_wp2
        go_roundw
        case rel => exact ⟨trivial, k + 1, HLT.out, by go_num, HKN⟩
        case measure => have := HLT.out; simp [intOf]; omega
      · have HF := Lib.hid (HNE.out e)
        rw [eqv_false e]
        clear e HS HNE
        go_wp2
        go_ret
        exact ⟨by rw [HF.out]; rfl, rfl⟩
  · have b0 : ((n : Int) != (m : Int)) = true := by simp; omega
    have HN := Lib.hid (show eqv (ts.map (·.text)) (us.map (·.text)) = false from eqv_false fun e => hl (by
      have := congrArg List.length e
      rw [List.length_map, List.length_map, ← HT.out.len, ← HU.out.len] at this
      exact this))
    clear ht hu hl hn
    go_enter Tryz.func35, Tryz.ntmps35
    go_wp2
    go_ret
    exact ⟨by rw [HN.out]; rfl, rfl⟩
end Go.Proofs.YtjkneidoochfjaaGreatDoor
