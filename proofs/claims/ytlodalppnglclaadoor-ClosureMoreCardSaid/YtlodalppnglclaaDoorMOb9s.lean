/- The chapter's example of layer 6: front, Right, Bytes, alive. -/
import Derived.Test.YtlodalppnglclaaDoorMOct14s
import Derived.Laws.Tables
import Derived.Great.BuildSlice
import Derived.Laws.ResultCell
namespace Go.Proofs.YtlodalppnglclaaDoor
open Go Go.RowKit
theorem ap_bytes {o : Oper} {a : Act} {w : World} {K : Act → World → Prop} {Q : Exit → Act → World → Prop} (s x : Operand)
    (ho : o.op = .call { callee := .builtin .append, args := #[s, x], argTypes := #[40, 40] }) (base : Nat) (v : Value) (ys : List Nat) (hs : a.eval s = v) (hown : w.ownsRow base 5 1 v ys.length (cellsB ys)) (hbase : base ≤ w.heap.size)
    (u : Value) (hx : a.eval x = u) (xs : List Nat) (hu : Rd w u xs) (hz : ys.length + xs.length ≤ 70368744177664)
    (h : ∀ v' w', w'.ownsRow base 5 1 v' (ys ++ xs).length (cellsB (ys ++ xs)) → w.grownBy w' v.ownBlock → K (a.put o.dst v') w') : o.wp Tryd.prog a w K Q := by
  obtain ⟨i0, hi0, hiz, his, hib⟩ := info_parts byte_info
  obtain ⟨A, c, rfl, hc, hA⟩ := hu
  have e0 : cellsB ys ++ cellsB xs = cellsB (ys ++ xs) := by simp [cellsB]
  cases A with
  | some ad =>
    refine wp_append_own w s x 40 ho base 5 i0 _ 1 1 Tryd.underlying40 hi0 hiz his hib rfl (by decide) v ys.length (cellsB ys) hs hown ad xs.length c (cellsB xs) hx (by rw [cellsB_len, Nat.mul_one]) ?_ (cellsB_one _) (by unfold maxLen; omega) (by omega) hbase ?_
    · intro j t hj
      have hjl : j < xs.length := by have := (List.getElem?_eq_some_iff.1 hj).1; rwa [cellsB_len] at this
      obtain ⟨b, o', ha, _, hxx⟩ := hA (by omega)
      obtain rfl := Option.some.inj ha
      rw [cellsB_get hjl] at hj
      rw [Addr.add_mid, hxx j hjl, hj]
    · intro v' w' h1 h2 _
      rw [e0, ← List.length_append] at h1
      exact h v' w' h1 h2
  | none =>
    have hn : xs.length = 0 := by
      rcases Nat.eq_zero_or_pos xs.length with h0 | h0
      · exact h0
      · obtain ⟨b, o', ha, _⟩ := hA h0
        cases ha
    have e : xs = [] := List.eq_nil_of_length_eq_zero hn
    subst e
    have hrun : ∀ ty, (Builtin.append_ #[40, 40] ty #[v, .slice none 0 c]).run Tryd.prog w = .ok v w := fun ty => by
      rcases hown.2 with ⟨hv, hn0⟩ | ⟨g, cap, cur, hv, _, _, hnc, _⟩
      · rw [hv]
        simp [Builtin.append_, run_underlying Tryd.underlying40, sizeOf, typeInfo, hi0, Builtin.lenOf, Builtin.firstCells]
      · rw [hv]
        simp [Builtin.append_, run_underlying Tryd.underlying40, sizeOf, typeInfo, hi0, Builtin.lenOf, Builtin.firstCells, hnc, storeCells]
    unfold Oper.wp execOp
    simp only [ho, resolve, invoke, builtin, Sem.run_bind, Sem.run_pure, Result.andThen_ok, List.map_toArray, List.map_cons, List.map_nil, hs, hx]
    rw [show ([] : List Nat).length = 0 from rfl, hrun]
    exact h _ _ (by rw [List.append_nil]; exact hown) (World.grownBy.refl w _)

theorem ObC.drewN {w : World} {o : Ob} {cs : Array Value} {T E P : Option Addr} {tc ec pc : Nat} (h : ObC w o cs T tc E ec P pc) (n : Nat) : ObC (w.drewN n) o cs T tc E ec P pc := h.below (below_drewN (Below.refl _ _) n) (Nat.le_refl _)
/-- An object's box, and what stays of it. -/
structure Box (w0 w : World) (g : Nat) (t : TypeId) (cs : Array Value) : Prop where
  at_ : Blk w g t cs
  bel : Below w0.heap.size w0 w
theorem Box.go {w0 w w' : World} {g : Nat} {t : TypeId} {cs : Array Value} (h : Box w0 w g t cs) (k : Below w.heap.size w w') : Box w0 w' g t cs :=
  ⟨h.at_.below k h.at_.lt, ⟨k.os.trans h.bel.os, k.tape.trans h.bel.tape, k.output.trans h.bel.output, Nat.le_trans h.bel.size k.size, fun i hi => (k.block i (Nat.lt_of_lt_of_le hi h.bel.size)).trans (h.bel.block i hi)⟩⟩
theorem Box.new (w : World) (t : TypeId) (cs : Array Value) : Box w (w.alloc (.cells cs t)) w.heap.size t cs := ⟨Blk.new w t cs, (Below.refl _ _).alloc (Nat.le_refl _) _⟩
theorem Box.drew {w0 w : World} {g : Nat} {t : TypeId} {cs : Array Value} (h : Box w0 w g t cs) : Box w0 w.drew g t cs := ⟨h.at_.drew, below_drewN h.bel 1⟩
theorem below_next {a b c : World} (h : Below a.heap.size a b) (k : Below b.heap.size b c) : Below a.heap.size a c :=
  ⟨k.os.trans h.os, k.tape.trans h.tape, k.output.trans h.output, Nat.le_trans h.size k.size, fun i hi => (k.block i (Nat.lt_of_lt_of_le hi h.size)).trans (h.block i hi)⟩
end Go.Proofs.YtlodalppnglclaaDoor
/- An object's cells laid by the program: structs and slices built of aggregates, a row of one's own behind a store elsewhere. -/
namespace Go.Proofs.YtlodalppnglclaaDoor
open Go Go.RowKit
theorem splice_from (off : Nat) : ∀ (xs old pre post : List Value) (n : Nat), old.length = xs.length → pre.length = off + n →
    (xs.zipIdx n).foldl (fun (cs : Array Value) (x : Value × Nat) => cs.setIfInBounds (off + x.2) x.1) (pre ++ old ++ post).toArray = (pre ++ xs ++ post).toArray
  | [], old, pre, post, n, h, _ => by
    obtain rfl : old = [] := List.eq_nil_of_length_eq_zero h
    rfl
  | x :: xs, [], pre, post, n, h, _ => by simp at h
  | x :: xs, o :: old, pre, post, n, h, hp => by
    have e : (pre ++ o :: old ++ post).toArray.setIfInBounds (off + n) x = ((pre ++ [x]) ++ old ++ post).toArray := by
      apply Array.ext'
      rw [Array.toList_setIfInBounds]
      show (pre ++ o :: old ++ post).set (off + n) x = _
      rw [List.append_assoc, List.set_append_right _ _ (by omega), show off + n - pre.length = 0 by omega]
      simp
    rw [List.zipIdx_cons, List.foldl_cons, e, splice_from off xs old (pre ++ [x]) post (n + 1) (by simpa using h) (by simp; omega)]
    simp
/-- One part is laid. -/
theorem fill_part (place : Nat → Option (Nat × Nat)) (i off size : Nat) (v : Value) (rest : List (Nat × Value)) (xs old pre post : List Value) (hp : place i = some (off, size)) (hv : v.cells = xs.toArray) (hx : xs.length = size) (ho : old.length = size) (hpre : pre.length = off) :
    Instr.fill place (pre ++ old ++ post).toArray ((i, v) :: rest) = Instr.fill place (pre ++ xs ++ post).toArray rest := by
  have h1 : ¬ (xs.toArray.size ≠ size) := by simp [hx]
  have h2 : ¬ (off + xs.toArray.size > (pre ++ old ++ post).toArray.size) := by simp; omega
  have h3 : xs.toArray.zipIdx.foldl (fun (cs : Array Value) (x : Value × Nat) => cs.setIfInBounds (off + x.2) x.1) (pre ++ old ++ post).toArray = (pre ++ xs ++ post).toArray := by
    rw [← Array.foldl_toList]
    have : xs.toArray.zipIdx.toList = xs.zipIdx 0 := by simp
    rw [this]
    exact splice_from off xs old pre post 0 (by omega) (by omega)
  rw [Instr.fill, hp]
  simp only [hv]
  rw [if_neg (by simp only [Bool.or_eq_true, decide_eq_true_eq, not_or]; exact ⟨by simpa using h1, h2⟩)]
  exact congrArg (fun c => Instr.fill place c rest) h3
theorem fill_done (place : Nat → Option (Nat × Nat)) (cs : Array Value) : Instr.fill place cs [] = some cs := rfl
theorem wpList_buildK {P : Program} {ops : Array Oper} {rest : List Oper} {o : Oper} {a : Act} {w : World} {Q : Exit → Act → World → Prop} (hg : o.guard = none) (t : TypeId) (parts : Array (Nat × Operand)) (ho : o.op = .build t parts) (vals : List (Nat × Value))
    (hv : (parts.map fun (i, x) => (i, a.eval x)).toList = vals) (cells : Array Value) (h : P.built t vals = some cells) (hk : wpList P ops Q rest (a.put o.dst (.agg cells)) w) : wpList P ops Q (o :: rest) a w :=
  wpList_plain hg fun K hK => by
    refine wp_build t parts ho (by rw [hv, h]; rfl) ?_
    rw [hv, h]
    exact hK _ _ hk
theorem wpList_buildSliceK {P : Program} {ops : Array Oper} {rest : List Oper} {o : Oper} {a : Act} {w : World} {Q : Exit → Act → World → Prop} (hg : o.guard = none) (t e : TypeId) (len : Nat) (parts : Array (Nat × Operand)) (ho : o.op = .buildSlice t len parts)
    (cells : Array Value) (ie : TypeInfo) (z : Value) (hu : P.underlying t = some (.slice e)) (hie : P.info? e = some ie) (hz : ie.zero = some z) (hsmall : ¬ len * ie.size > 2 ^ 24) (hpos : ¬ len * ie.size = 0)
    (vals : List (Nat × Value)) (hv : (parts.map fun (i, x) => (i, a.eval x)).toList = vals)
    (hf : Instr.fill (fun i => some (i * ie.size, ie.size)) ((Array.range (len * ie.size)).map (z.cells[· % z.cells.size]!)) vals = some cells)
    (h : wpList P ops Q rest (a.put o.dst (.slice (some ⟨w.heap.size, 0, none⟩) len len)) (w.alloc (.cells cells e))) : wpList P ops Q (o :: rest) a w :=
  wpList_buildSlice hg t e len parts ho cells ie z hu hie hz hsmall hpos (by rw [hv]; exact hf) h
theorem built_of {P : Program} {t : TypeId} {fields : Array Field} {zc : Array Value} {places : List (Nat × Nat)} (hu : P.underlying t = some (.struct fields)) (hz : ((P.info? t).bind (·.zero)).map (·.cells) = some zc)
    (hp : fields.toList.mapM (fun f => (P.info? f.type).map fun i => (f.offset, i.size)) = some places) (parts : List (Nat × Value)) : P.built t parts = Instr.fill (places.toArray[·]?) zc parts := by
  cases hi : P.info? t with
  | none => simp [hi] at hz
  | some it =>
    cases hzz : it.zero with
    | none => simp [hi, hzz] at hz
    | some z =>
      have hzc : z.cells = zc := by simpa [hi, hzz] using hz
      simp [Program.built, hi, hu, hzz, hp, hzc]
/-- An object's cells, written out. -/
def cellsOb (k : Int) (t e p : Value) (x : List Nat) : List Value := .int .i64 k :: t :: e :: (cellsB x ++ [p])
end Go.Proofs.YtlodalppnglclaaDoor
/- An object as the document's (cartagelaw06.Of). -/
namespace Go.Proofs.YtlodalppnglclaaDoor
open Go Go.RowKit
abbrev nilV : Value := .slice none 0 0
abbrev zc0 : Array Value := (cellsOb 0 nilV nilV nilV (List.replicate 32 0)).toArray
theorem cellsOb_size (k : Int) (t e p : Value) (x : List Nat) (hx : x.length = 32) : (cellsOb k t e p x).toArray.size = 36 := by simp [cellsOb, cellsB_len, hx]
theorem cellsOb_one (k : Int) (A B C : Option Addr) (l1 l2 l3 c1 c2 c3 : Nat) (x : List Nat) : ((cellsOb k (.slice A l1 c1) (.slice B l2 c2) (.slice C l3 c3) x).toArray).all (·.oneCell') = true := by
  rw [Array.all_eq_true_iff_forall_mem]
  intro v hv
  simp only [cellsOb, List.mem_toArray, List.mem_cons, List.mem_append, List.not_mem_nil, or_false] at hv
  rcases hv with rfl | rfl | rfl | hv | rfl
  · rfl
  · rfl
  · rfl
  · exact cellsB_one _ v hv
  · rfl
/-- What Of has laid: the object's box, the result's, the document's object so far. -/
structure OfW (w w' : World) (cs : Array Value) (g1 g2 : Nat) (rc : Array Value) : Prop where
  box : Box w w' w.heap.size 50 cs
  b1 : Blk w' g1 54 zc0
  b2 : Blk w' g2 54 rc
  s2 : rc.size = 36
  one : rc.all (·.oneCell') = true
  o1 : w.heap.size < g1
  o2 : g1 < g2
/-- .. behind the result's store. -/
structure OfD (w w' : World) (g1 : Nat) (rc : Array Value) : Prop where
  b1 : Blk w' g1 54 rc
  bel : Below w.heap.size w w'
  s2 : rc.size = 36
  one : rc.all (·.oneCell') = true
theorem OfW.done {w w' : World} {cs : Array Value} {g1 g2 : Nat} {rc : Array Value} (h : OfW w w' cs g1 g2 rc) : OfD w (w'.setRow g1 rc) g1 rc :=
  ⟨h.b1.row rc, below_row h.box.bel (Nat.le_of_lt h.o1) rc, h.s2, h.one⟩
theorem OfW.below {w w' w'' : World} {cs : Array Value} {g1 g2 : Nat} {rc : Array Value} (h : OfW w w' cs g1 g2 rc) (k : Below w'.heap.size w' w'') : OfW w w'' cs g1 g2 rc :=
  ⟨h.box.go k, h.b1.below k h.b1.lt, h.b2.below k h.b2.lt, h.s2, h.one, h.o1, h.o2⟩
theorem own_slice {w : World} {base : Nat} {e : TypeId} {size n : Nat} {v : Value} {xs : List Value} (h : w.ownsRow base e size v n xs) : ∃ A c, v = .slice A n c := by
  rcases h.2 with ⟨rfl, rfl⟩ | ⟨g, cap, cur, rfl, _⟩
  · exact ⟨none, 0, rfl⟩
  · exact ⟨_, _, rfl⟩
theorem own_farRow {w : World} {base : Nat} {e : TypeId} {size n : Nat} {v : Value} {xs : List Value} (h : w.ownsRow base e size v n xs) {g : Nat} (hg : ∀ k, v.ownBlock = some k → k ≠ g) (cs : Array Value) : (w.setRow g cs).ownsRow base e size v n xs := by
  refine ⟨h.1, ?_⟩
  rcases h.2 with hn | ⟨k, cap, cur, rfl, hb, hgg, hr⟩
  · exact .inl hn
  · exact .inr ⟨k, cap, cur, rfl, hb, by rw [setRow_other w g k cs (hg k rfl)]; exact hgg, hr⟩
theorem rdk_own {w : World} {base : Nat} {e : TypeId} {size n : Nat} {v : Value} {xs : List Value} (h : w.ownsRow base e size v n xs) : RdK w v n xs := by
  rcases h.2 with ⟨rfl, rfl⟩ | ⟨g, cap, cur, rfl, hb, hgg, hc, _⟩
  · exact RdK.nil _ _
  · exact ⟨_, _, rfl, hc, fun _ => ⟨g, 0, rfl, (Array.getElem?_eq_some_iff.1 hgg).1, fun j u hu => by
      have := h.cells rfl j u hu
      rw [Addr.add_mid] at this
      exact this⟩⟩
/-- An append onto a row that lies above all of it. -/
theorem OfW.own {w w' w'' : World} {cs : Array Value} {g1 g2 : Nat} {rc : Array Value} (h : OfW w w' cs g1 g2 rc) {B : Nat} {e : TypeId} {size n : Nat} {v : Value} {xs : List Value} (ho : w'.ownsRow B e size v n xs) (hB : g2 < B) (k : w'.grownBy w'' v.ownBlock) : OfW w w'' cs g1 g2 rc :=
  have ne : ∀ {g}, g < B → some g ≠ v.ownBlock := fun hg e => by
    have := (ho.lt _ e.symm).1
    omega
  ⟨⟨h.box.at_.stands (k.block _ h.box.at_.lt (ne (by have := h.o1; have := h.o2; omega))), below_own h.box.bel ho (by have := h.o1; have := h.o2; omega) k⟩,
    h.b1.stands (k.block _ h.b1.lt (ne (by have := h.o2; omega))), h.b2.stands (k.block _ h.b2.lt (ne hB)), h.s2, h.one, h.o1, h.o2⟩
/-- A field of the document's object is stored. -/
theorem OfW.field {w w' : World} {cs : Array Value} {g1 g2 : Nat} {rc : Array Value} (h : OfW w w' cs g1 g2 rc) (i : Nat) (u : Value) (rc' : Array Value) (e : rc.setIfInBounds i u = rc') (s2 : rc'.size = 36) (one : rc'.all (·.oneCell') = true) : OfW w (w'.setCell ⟨g2, i, none⟩ u) cs g1 g2 rc' :=
  ⟨⟨h.box.at_.far (by show w.heap.size ≠ g2; have := h.o1; have := h.o2; omega) u, h.box.bel.setCell (p := ⟨g2, i, none⟩) (by show w.heap.size ≤ g2; have := h.o1; have := h.o2; omega) u⟩,
    h.b1.far (by show g1 ≠ g2; have := h.o2; omega) u, e ▸ h.b2.set_ i u, s2, one, h.o1, h.o2⟩
theorem cellsOb_get35 (k : Int) (t e p : Value) (x : List Nat) (hx : x.length = 32) : (cellsOb k t e p x).toArray[35]? = some p := by
  rw [List.getElem?_toArray, cellsOb, show (35 : Nat) = 32 + 1 + 1 + 1 from rfl, List.getElem?_cons_succ, List.getElem?_cons_succ, List.getElem?_cons_succ, List.getElem?_append_right (by rw [cellsB_len, hx]; omega), cellsB_len, hx]
  rfl
theorem cellsE1_one (e : Ent) : ∀ v ∈ cellsE1 e, v.oneCell' = true := by
  intro v hv
  rcases List.mem_cons.1 hv with rfl | hv
  · rfl
  · exact cellsB_one _ v hv
theorem arr_one {l : List Value} (h : ∀ v ∈ l, v.oneCell' = true) : l.toArray.all (·.oneCell') = true := by
  rw [Array.all_eq_true_iff_forall_mem]
  exact fun v hv => h v (by simpa using hv)
theorem fill_one (n : Nat) (zc : Array Value) (xs : List Value) (hx : xs.length = n) (_hz : zc.size = n) : Instr.fill (fun i => some (i * n, n)) ((Array.range (1 * n)).map (zc[· % zc.size]!)) [(0, .agg xs.toArray)] = some xs.toArray := by
  obtain ⟨old, ho⟩ : ∃ old : List Value, (Array.range (1 * n)).map (zc[· % zc.size]!) = old.toArray := ⟨_, (Array.toArray_toList ..).symm⟩
  have hl : old.length = n := by
    have := congrArg Array.size ho
    simpa using this.symm
  rw [ho]
  have h := fill_part (fun i => some (i * n, n)) 0 0 n (.agg xs.toArray) [] xs old [] [] (by simp) rfl hx hl rfl
  rw [List.nil_append, List.append_nil, List.nil_append, List.append_nil] at h
  exact h
end Go.Proofs.YtlodalppnglclaaDoor
/- Names of a tree's entries: which are right (rightName; the document's named). -/
namespace Go.Proofs.YtlodalppnglclaaDoor
open Go Go.RowKit
def okc (c : Nat) : Bool := decide (33 ≤ c) && decide (c ≤ 126) && !(c == 47)
def nameOk (l : List UInt8) : Bool := decide (1 ≤ l.length) && decide (l.length ≤ 12) && l.all (fun c => okc c.toNat)
theorem nm_take {s : ByteArray} {k : Nat} (h : k < s.size) (h1 : (s.data.toList.take k).all (fun c => okc c.toNat) = true) (h2 : okc s[k].toNat = true) : (s.data.toList.take (k + 1)).all (fun c => okc c.toNat) = true := by
  rw [List.take_succ_eq_append_getElem (by simpa using h), List.all_append, h1, Bool.true_and, List.all_cons, List.all_nil, Bool.and_true]
  exact h2
theorem nm_not {s : ByteArray} {k : Nat} (h : k < s.size) (h2 : okc s[k].toNat = false) : s.data.toList.all (fun c => okc c.toNat) = false := by
  rw [List.all_eq_false]
  exact ⟨s[k], by simp [ByteArray.getElem_eq_getElem_data], by simp [h2]⟩
set_option maxHeartbeats 1000000 in
theorem rname_any (s : ByteArray) (w : World) (hs : s.size ≤ 1099511627776) :
    Calls Tryd.prog 62 #[.string s] w fun e w' => e = .returned (.bool (nameOk s.data.toList)) ∧ w' = w := by
  have hl : s.data.toList.length = s.size := by simp
  by_cases h1 : s.size < 1
  · have HV := Lib.hid (show nameOk s.data.toList = false by unfold nameOk; rw [hl, decide_eq_false (show ¬ 1 ≤ s.size by omega)]; rfl)
    have g1 : ((s.size : Nat) : Int) < 1 := by omega
    clear hl
    go_enter Tryd.func62, Tryd.ntmps62
    go_wp2
    go_ret
    exact ⟨by rw [HV.out]; rfl, rfl⟩
  by_cases h2 : 12 < s.size
  · have HV := Lib.hid (show nameOk s.data.toList = false by unfold nameOk; rw [hl, decide_eq_false (show ¬ s.size ≤ 12 by omega), Bool.and_false, Bool.false_and])
    have g1 : ¬ ((s.size : Nat) : Int) < 1 := by omega
    have g2 : (12 : Int) < ((s.size : Nat) : Int) := by omega
    clear hl
    go_enter Tryd.func62, Tryd.ntmps62
    go_wp2
    go_ret
    exact ⟨by rw [HV.out]; rfl, rfl⟩
  have g1 : ¬ ((s.size : Nat) : Int) < 1 := by omega
  have g2 : ¬ (12 : Int) < ((s.size : Nat) : Int) := by omega
  have HN := Lib.hid (fun (b : Bool) (h : s.data.toList.all (fun c => okc c.toNat) = b) => show nameOk s.data.toList = b by unfold nameOk; rw [hl, decide_eq_true (show 1 ≤ s.size by omega), decide_eq_true (show s.size ≤ 12 by omega), h]; rfl)
  clear hl
  go_enter Tryd.func62, Tryd.ntmps62
  go_wp2
  go_loopw [14] (fun i wr => ∃ k : Nat, k ≤ s.size ∧ i = .int .i64 k ∧ Hid ((s.data.toList.take k).all (fun c => okc c.toNat) = true) ∧ wr = w) (fun i _ => s.size - (intOf i).toNat)
  case atStart => exact ⟨0, Nat.zero_le _, rfl, Lib.hid rfl, rfl⟩
  case round =>
    obtain ⟨k, hk, rfl, HK, rfl⟩ := hrel
    by_cases hlt : k < s.size
    · have HO := Lib.hid (fun (h : okc s[k].toNat = true) => show (s.data.toList.take (k + 1)).all (fun c => okc c.toNat) = true from nm_take hlt HK.out h)
      have HX := Lib.hid (fun (h : okc s[k].toNat = false) => HN.out false (nm_not hlt h))
      have i0 : ((k : Nat) : Int) < ((s.size : Nat) : Int) := by omega
      have i1 : (0 : Int) ≤ ((k : Nat) : Int) := by omega
      by_cases c1 : s[k].toNat < 33
      · have HF := Lib.hid (HX.out (by unfold okc; rw [decide_eq_false (show ¬ 33 ≤ s[k].toNat by omega)]; rfl))
        have q1 : ((s[k].toNat : Nat) : Int) < 33 := by omega
        clear c1
        go_wp2
        go_ret
        exact ⟨by rw [HF.out]; rfl, rfl⟩
      by_cases c2 : 126 < s[k].toNat
      · have HF := Lib.hid (HX.out (by unfold okc; rw [decide_eq_false (show ¬ s[k].toNat ≤ 126 by omega), Bool.and_false, Bool.false_and]))
        have q1 : ¬ ((s[k].toNat : Nat) : Int) < 33 := by omega
        have q2 : (126 : Int) < ((s[k].toNat : Nat) : Int) := by omega
        clear c1 c2
        go_wp2
        go_ret
        exact ⟨by rw [HF.out]; rfl, rfl⟩
      have q1 : ¬ ((s[k].toNat : Nat) : Int) < 33 := by omega
      have q2 : ¬ (126 : Int) < ((s[k].toNat : Nat) : Int) := by omega
      by_cases c3 : s[k].toNat = 47
      · have HF := Lib.hid (HX.out (by unfold okc; rw [c3]; rfl))
        have q3 : (((s[k].toNat : Nat) : Int) == 47) = true := by simp; omega
        clear c1 c2 c3
        go_wp2
        go_ret
        exact ⟨by rw [HF.out]; rfl, rfl⟩
      · have HF := Lib.hid (HO.out (by unfold okc; rw [decide_eq_true (show 33 ≤ s[k].toNat by omega), decide_eq_true (show s[k].toNat ≤ 126 by omega)]; simp [c3]))
        have q3 : (((s[k].toNat : Nat) : Int) == 47) = false := by simp; omega
        clear c1 c2 c3
        go_wp2
        go_roundw
        case rel => exact ⟨k + 1, by omega, by go_num, HF, (by first | rfl | trivial)⟩
        case measure => simp [intOf]; omega
    · have HF := Lib.hid (HN.out true (by have h := HK.out; rwa [List.take_of_length_le (by simp; omega)] at h))
      go_wp2
      go_ret
      exact ⟨by rw [HF.out]; rfl, rfl⟩
end Go.Proofs.YtlodalppnglclaaDoor
