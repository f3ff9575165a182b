/- The chapter's example of layer 6: front, Right, Bytes, alive. -/
import Derived.Test.YtcnedkgadfegbaaDoorMOb1s
import Derived.Laws.Tables
import Derived.Great.BuildSlice
import Derived.Laws.ResultCell
namespace Go.Proofs.YtcnedkgadfegbaaDoor
open Go Go.RowKit
theorem ap_bytes {o : Oper} {a : Act} {w : World} {K : Act → World → Prop} {Q : Exit → Act → World → Prop} (s x : Operand)
    (ho : o.op = .call { callee := .builtin .append, args := #[s, x], argTypes := #[22, 22] }) (base : Nat) (v : Value) (ys : List Nat) (hs : a.eval s = v) (hown : w.ownsRow base 5 1 v ys.length (cellsB ys)) (hbase : base ≤ w.heap.size)
    (u : Value) (hx : a.eval x = u) (xs : List Nat) (hu : Rd w u xs) (hz : ys.length + xs.length ≤ 70368744177664)
    (h : ∀ v' w', w'.ownsRow base 5 1 v' (ys ++ xs).length (cellsB (ys ++ xs)) → w.grownBy w' v.ownBlock → K (a.put o.dst v') w') : o.wp Tryd.prog a w K Q := by
  obtain ⟨i0, hi0, hiz, his, hib⟩ := info_parts byte_info
  obtain ⟨A, c, rfl, hc, hA⟩ := hu
  have e0 : cellsB ys ++ cellsB xs = cellsB (ys ++ xs) := by simp [cellsB]
  cases A with
  | some ad =>
    refine wp_append_own w s x 22 ho base 5 i0 _ 1 1 Tryd.underlying22 hi0 hiz his hib rfl (by decide) v ys.length (cellsB ys) hs hown ad xs.length c (cellsB xs) hx (by rw [cellsB_len, Nat.mul_one]) ?_ (cellsB_one _) (by unfold maxLen; omega) (by omega) hbase ?_
    · intro j t hj
      have hjl : j < xs.length := by have := (List.getElem?_eq_some_iff.1 hj).1; rwa [cellsB_len] at this
      obtain ⟨b, o', ha, _, hxx⟩ := hA (by omega)
      obtain rfl := Option.some.inj ha
      rw [cellsB_get hjl] at hj
      rw [Addr.add_mid, hxx j hjl, hj]
    · intro v' w' h1 h2 _
      rw [e0, ← List.length_append] at h1
      exact h v' w' h1 h2
  | none =>
    have hn : xs.length = 0 := by
      rcases Nat.eq_zero_or_pos xs.length with h0 | h0
      · exact h0
      · obtain ⟨b, o', ha, _⟩ := hA h0
        cases ha
    have e : xs = [] := List.eq_nil_of_length_eq_zero hn
    subst e
    have hrun : ∀ ty, (Builtin.append_ #[22, 22] ty #[v, .slice none 0 c]).run Tryd.prog w = .ok v w := fun ty => by
      rcases hown.2 with ⟨hv, hn0⟩ | ⟨g, cap, cur, hv, _, _, hnc, _⟩
      · rw [hv]
        simp [Builtin.append_, run_underlying Tryd.underlying22, sizeOf, typeInfo, hi0, Builtin.lenOf, Builtin.firstCells]
      · rw [hv]
        simp [Builtin.append_, run_underlying Tryd.underlying22, sizeOf, typeInfo, hi0, Builtin.lenOf, Builtin.firstCells, hnc, storeCells]
    unfold Oper.wp execOp
    simp only [ho, resolve, invoke, builtin, Sem.run_bind, Sem.run_pure, Result.andThen_ok, List.map_toArray, List.map_cons, List.map_nil, hs, hx]
    rw [show ([] : List Nat).length = 0 from rfl, hrun]
    exact h _ _ (by rw [List.append_nil]; exact hown) (World.grownBy.refl w _)

theorem ObC.drewN {w : World} {o : Ob} {cs : Array Value} {T E P : Option Addr} {tc ec pc : Nat} (h : ObC w o cs T tc E ec P pc) (n : Nat) : ObC (w.drewN n) o cs T tc E ec P pc := h.below (below_drewN (Below.refl _ _) n) (Nat.le_refl _)
/-- An object's box, and what stays of it. -/
structure Box (w0 w : World) (g : Nat) (t : TypeId) (cs : Array Value) : Prop where
  at_ : Blk w g t cs
  bel : Below w0.heap.size w0 w
theorem Box.go {w0 w w' : World} {g : Nat} {t : TypeId} {cs : Array Value} (h : Box w0 w g t cs) (k : Below w.heap.size w w') : Box w0 w' g t cs :=
  ⟨h.at_.below k h.at_.lt, ⟨k.os.trans h.bel.os, k.tape.trans h.bel.tape, k.output.trans h.bel.output, Nat.le_trans h.bel.size k.size, fun i hi => (k.block i (Nat.lt_of_lt_of_le hi h.bel.size)).trans (h.bel.block i hi)⟩⟩
theorem Box.new (w : World) (t : TypeId) (cs : Array Value) : Box w (w.alloc (.cells cs t)) w.heap.size t cs := ⟨Blk.new w t cs, (Below.refl _ _).alloc (Nat.le_refl _) _⟩
theorem Box.drew {w0 w : World} {g : Nat} {t : TypeId} {cs : Array Value} (h : Box w0 w g t cs) : Box w0 w.drew g t cs := ⟨h.at_.drew, below_drewN h.bel 1⟩
set_option maxRecDepth 100000 in
set_option maxHeartbeats 1000000 in
theorem front_blob (cs : Array Value) (T E P : Option Addr) (tc ec pc : Nat) (w : World) (h : ObC w blobX cs T tc E ec P pc) :
    Calls Tryd.prog 49 #[.agg cs] w fun e w' => ∃ A c, e = .returned (.slice A 1 c) ∧ Pad w.heap.size w (.slice A 1 c) [98] w' := by
  obtain ⟨w2, hw2⟩ : ∃ w2, w2 = w.alloc (.cells cs 37) := ⟨_, rfl⟩
  have hB : Below w.heap.size w w2 := hw2 ▸ (Below.refl _ _).alloc (Nat.le_refl _) _
  have B1 : Blk w2 w.heap.size 37 cs := hw2 ▸ Blk.new w _ cs
  obtain ⟨w3, hw3⟩ : ∃ w3, w3 = w2.alloc (.cells #[.int .u8 98] 5) := ⟨_, rfl⟩
  have hsz : w2.heap.size = w.heap.size + 1 := by rw [hw2]; simp
  have HP : Hid (Pad w.heap.size w (.slice (some ⟨w.heap.size + 1, 0, none⟩) 1 1) [98] w3) := Lib.hid (by
    have h1 := World.ownsRow_lit (base := w.heap.size) (e := 5) (size := 1) w2 #[.int .u8 98] 1 (by rw [hsz]; omega) (by decide) rfl
    rw [hsz, ← hw3] at h1
    exact ⟨h1, hw3 ▸ hB.alloc hB.size _⟩)
  have a0 : w2.cell? ⟨w.heap.size, 0, none⟩ = some (.int .i64 1) := (B1.cell 0).trans h.c0
  have B3 : Blk w3 w.heap.size 37 cs := hw3 ▸ B1.alloc _
  have b0 : w3.cell? ⟨w.heap.size, 0, none⟩ = some (.int .i64 1) := (B3.cell 0).trans h.c0
  have b2 : w3.cell? ⟨w.heap.size, 2, none⟩ = some (.slice E 0 ec) := (B3.cell 2).trans h.c2
  have b3 : w3.cell? ⟨w.heap.size, 35, none⟩ = some (.slice P 0 pc) := (B3.cell 35).trans (h.c35 blobX_fit)
  have CA := aims_one w3
  have e2 := hw2.symm
  have e3 := hw3.symm
  have L0 : (((⟨#[98, 116, 99, 103]⟩ : ByteArray)[0]'(by decide)).toNat : Int) = 98 := rfl
  clear h B1 B3 hw2 hw3 hB
  go_enter Tryd.func49, Tryd.ntmps49
  go_wp2
  go_loopw [3, 16] (fun v i wr => v = .slice (some ⟨w.heap.size + 1, 0, none⟩) 1 1 ∧ i = .int .i64 0 ∧ wr = w3) (fun _ _ _ => 0)
  case atStart => exact ⟨rfl, rfl, rfl⟩
  case round =>
    obtain ⟨rfl, rfl, hwr⟩ := hrel
    obtain rfl := hwr.symm
    go_wp2_with (go_at_call 63; refine CA.mono ?_; rintro e w' ⟨rfl, rfl⟩)
    go_loopw [3, 56] (fun v i wr => v = .slice (some ⟨w.heap.size + 1, 0, none⟩) 1 1 ∧ i = .int .i64 0 ∧ wr = w3) (fun _ _ _ => 0)
    case atStart => exact ⟨rfl, rfl, rfl⟩
    case round =>
      obtain ⟨rfl, rfl, rfl⟩ := hrel
      go_wp2
      go_ret
      exact ⟨_, _, rfl, HP.out⟩
theorem below_next {a b c : World} (h : Below a.heap.size a b) (k : Below b.heap.size b c) : Below a.heap.size a c :=
  ⟨k.os.trans h.os, k.tape.trans h.tape, k.output.trans h.output, Nat.le_trans h.size k.size, fun i hi => (k.block i (Nat.lt_of_lt_of_le hi h.size)).trans (h.block i hi)⟩
set_option maxRecDepth 100000 in
set_option maxHeartbeats 1000000 in
theorem right_blob (cs : Array Value) (T E P : Option Addr) (tc ec pc : Nat) (w : World) (h : ObC w blobX cs T tc E ec P pc) :
    Calls Tryd.prog 29 #[.agg cs] w fun e w' => e = .returned (.bool true) ∧ Below w.heap.size w w' := by
  obtain ⟨w2, hw2⟩ : ∃ w2, w2 = w.alloc (.cells cs 37) := ⟨_, rfl⟩
  have X1 : Box w w2 w.heap.size 37 cs := hw2 ▸ Box.new w _ cs
  have HC := Lib.hid h
  have hsz := h.size blobX_fit
  have k0 := h.c0
  have k1 := h.c1
  have k2 := h.c2
  have k3 := h.c35 blobX_fit
  have a0 : w2.cell? ⟨w.heap.size, 0, none⟩ = some (.int .i64 1) := (X1.at_.cell 0).trans k0
  have n1 : (Tryd.prog.info? 37).map (·.size) = some cs.size := by rw [hsz]; kernel_rfl
  have CS := strange_blob cs T E P tc ec pc w2 (h.below X1.bel (Nat.le_refl _))
  have HX1 := Lib.hid X1
  have N1 := Lib.hid n1
  have K1 := Lib.hid k1
  have K2 := Lib.hid k2
  have K3 := Lib.hid k3
  have e2 := hw2.symm
  clear h X1 hw2 n1 hsz k0 k1 k2 k3
  go_enter Tryd.func29, Tryd.ntmps29
  go_wp2_with (with_reducible (show wpList _ _ _ (Oper.mk _ (Op.load 37 _) _ _ _ _ :: _) _ _); refine pause ?_)
  unfold Paused
  refine wpList_row_w (by rfl) 37 (.tmp 1) (by rfl) w.heap.size (by rfl) 37 cs _ HX1.out.at_ Tryd.underlying37 (by rfl) N1.out ?_
  go_wp2_with (go_at_call 47; refine pause ?_)
  unfold Paused
  refine CS.mono ?_
  rintro e w3 ⟨rfl, hb⟩
  have HX3 := Lib.hid (HX1.out.go hb)
  have b2 : w3.cell? ⟨w.heap.size, 2, none⟩ = some (.slice E 0 ec) := (HX3.out.at_.cell 2).trans K2.out
  have b3 : w3.cell? ⟨w.heap.size, 35, none⟩ = some (.slice P 0 pc) := (HX3.out.at_.cell 35).trans K3.out
  have CR := rents_nil E ec w3
  have CF : ∀ w', Below w3.heap.size w3 w' → Calls Tryd.prog 49 #[.agg cs] w' _ := fun w' hb => front_blob cs T E P tc ec pc w' (HC.out.below (HX3.out.go hb).bel (Nat.le_refl _))
  have c1 : ∀ w', Below w3.heap.size w3 w' → w'.cell? ⟨w.heap.size, 1, none⟩ = some (.slice T 1 tc) := fun w' hb => ((HX3.out.go hb).at_.cell 1).trans K1.out
  clear hb a0 CS e2
  go_wp2_with (go_at_call 48; refine CR.mono ?_; rintro e w' ⟨rfl, rfl⟩)
  refine wp_region_held (S := (fun w' => Below w3.heap.size w3 w')) (by kernel_rfl) ?_
  change wpAnyH _ _ _ _ _ _ _ _ w3.drew
  have HS0 := Lib.hid (below_drewN (Below.refl w3.heap.size w3) 1)
  refine wpAnyH_take (i := 0) rfl (by kernel_rfl) (by kernel_rfl) (by kernel_rfl) (fun _ _ _ h => h) (takes_row 37 (.tmp 1) rfl (by rfl) w.heap.size rfl 37 cs _ (fun w' h => (HX3.out.go h).at_) Tryd.underlying37 rfl N1.out) (HS0.out) ?_
  try simp only [Act.put, List.getElem_toArray, List.getElem_cons_zero, List.setIfInBounds_toArray, List.set_cons_zero, List.set_cons_succ]
  refine wpAnyH_take (i := 3) (v := ?_) rfl (by kernel_rfl) (by kernel_rfl) (by kernel_rfl) (fun _ _ _ h => h) (Or.inl ⟨by rfl, ?_⟩) (HS0.out) ?_
  rotate_left
  · intro w' hw; go_simp; with_reducible rfl
  try simp only [Act.put, List.getElem_toArray, List.getElem_cons_zero, List.getElem_cons_succ, List.setIfInBounds_toArray, List.set_cons_zero, List.set_cons_succ]
  refine wpAnyH_take (i := 4) (v := ?_) rfl (by kernel_rfl) (by kernel_rfl) (by kernel_rfl) (fun _ _ _ h => h) (Or.inl ⟨by rfl, ?_⟩) (HS0.out) ?_
  rotate_left
  · intro w' hw; go_simp; with_reducible rfl
  try simp only [Act.put, List.getElem_toArray, List.getElem_cons_zero, List.getElem_cons_succ, List.setIfInBounds_toArray, List.set_cons_zero, List.set_cons_succ]
  refine wpAnyH_take (i := 5) (v := ?_) rfl (by kernel_rfl) (by kernel_rfl) (by kernel_rfl) (fun _ _ _ h => h) (Or.inl ⟨by rfl, ?_⟩) (HS0.out) ?_
  rotate_left
  · intro w' hw; go_simp; with_reducible rfl
  try simp only [Act.put, List.getElem_toArray, List.getElem_cons_zero, List.getElem_cons_succ, List.setIfInBounds_toArray, List.set_cons_zero, List.set_cons_succ]
  refine all_one (i := 1) (by kernel_rfl) rfl (by rfl) (fun K hK => ?_)
  go_simp
  refine (CF _ HS0.out).mono ?_
  rintro e w4 ⟨A, c, rfl, hp⟩
  have HS1 : Hid (Below w3.heap.size w3 w4) := Lib.hid (below_next HS0.out hp.bel)
  dsimp only
  refine hK _ _ HS1.out ?_; clear hK K
  try simp only [Act.put, List.getElem_toArray, List.getElem_cons_zero, List.getElem_cons_succ, List.setIfInBounds_toArray, List.set_cons_zero, List.set_cons_succ]
  refine wpAnyH_take (i := 2) (v := ?_) rfl (by kernel_rfl) (by kernel_rfl) (by kernel_rfl) (fun _ _ _ h => h) (Or.inl ⟨by rfl, ?_⟩) (HS1.out) ?_
  rotate_left
  · intro w' hw; go_simp; with_reducible rfl
  try simp only [Act.put, List.getElem_toArray, List.getElem_cons_zero, List.getElem_cons_succ, List.setIfInBounds_toArray, List.set_cons_zero, List.set_cons_succ]
  refine wpAnyH_take (i := 6) (v := ?_) rfl (by kernel_rfl) (by kernel_rfl) (by kernel_rfl) (fun _ _ _ h => h) (Or.inl ⟨by rfl, ?_⟩) (HS1.out) ?_
  rotate_left
  · intro w' hw; go_simp; with_reducible rfl
  try simp only [Act.put, List.getElem_toArray, List.getElem_cons_zero, List.getElem_cons_succ, List.setIfInBounds_toArray, List.set_cons_zero, List.set_cons_succ]
  refine wpAnyH_take (i := 7) (v := ?_) rfl (by kernel_rfl) (by kernel_rfl) (by kernel_rfl) (fun _ _ _ h => h) (Or.inl ⟨by rfl, ?_⟩) (HS1.out) ?_
  rotate_left
  · intro w' hw; go_simp; with_reducible rfl
  try simp only [Act.put, List.getElem_toArray, List.getElem_cons_zero, List.getElem_cons_succ, List.setIfInBounds_toArray, List.set_cons_zero, List.set_cons_succ]
  refine wpAnyH_take (i := 8) (v := ?_) rfl (by kernel_rfl) (by kernel_rfl) (by kernel_rfl) (fun _ _ _ h => h) (Or.inl ⟨by rfl, ?_⟩) (HS1.out) ?_
  rotate_left
  · intro w' hw; go_simp; with_reducible rfl
  try simp only [Act.put, List.getElem_toArray, List.getElem_cons_zero, List.getElem_cons_succ, List.setIfInBounds_toArray, List.set_cons_zero, List.set_cons_succ]
  refine wpAnyH_done (by kernel_rfl) ?_ _
  go_wp2
  go_ret
  exact ⟨rfl, (HX3.out.go HS1.out).bel⟩
end Go.Proofs.YtcnedkgadfegbaaDoor
/- An object's cells laid by the program: structs and slices built of aggregates, a row of one's own behind a store elsewhere. -/
namespace Go.Proofs.YtcnedkgadfegbaaDoor
open Go Go.RowKit
theorem splice_from (off : Nat) : ∀ (xs old pre post : List Value) (n : Nat), old.length = xs.length → pre.length = off + n →
    (xs.zipIdx n).foldl (fun (cs : Array Value) (x : Value × Nat) => cs.setIfInBounds (off + x.2) x.1) (pre ++ old ++ post).toArray = (pre ++ xs ++ post).toArray
  | [], old, pre, post, n, h, _ => by
    obtain rfl : old = [] := List.eq_nil_of_length_eq_zero h
    rfl
  | x :: xs, [], pre, post, n, h, _ => by simp at h
  | x :: xs, o :: old, pre, post, n, h, hp => by
    have e : (pre ++ o :: old ++ post).toArray.setIfInBounds (off + n) x = ((pre ++ [x]) ++ old ++ post).toArray := by
      apply Array.ext'
      rw [Array.toList_setIfInBounds]
      show (pre ++ o :: old ++ post).set (off + n) x = _
      rw [List.append_assoc, List.set_append_right _ _ (by omega), show off + n - pre.length = 0 by omega]
      simp
    rw [List.zipIdx_cons, List.foldl_cons, e, splice_from off xs old (pre ++ [x]) post (n + 1) (by simpa using h) (by simp; omega)]
    simp
/-- One part is laid. -/
theorem fill_part (place : Nat → Option (Nat × Nat)) (i off size : Nat) (v : Value) (rest : List (Nat × Value)) (xs old pre post : List Value) (hp : place i = some (off, size)) (hv : v.cells = xs.toArray) (hx : xs.length = size) (ho : old.length = size) (hpre : pre.length = off) :
    Instr.fill place (pre ++ old ++ post).toArray ((i, v) :: rest) = Instr.fill place (pre ++ xs ++ post).toArray rest := by
  have h1 : ¬ (xs.toArray.size ≠ size) := by simp [hx]
  have h2 : ¬ (off + xs.toArray.size > (pre ++ old ++ post).toArray.size) := by simp; omega
  have h3 : xs.toArray.zipIdx.foldl (fun (cs : Array Value) (x : Value × Nat) => cs.setIfInBounds (off + x.2) x.1) (pre ++ old ++ post).toArray = (pre ++ xs ++ post).toArray := by
    rw [← Array.foldl_toList]
    have : xs.toArray.zipIdx.toList = xs.zipIdx 0 := by simp
    rw [this]
    exact splice_from off xs old pre post 0 (by omega) (by omega)
  rw [Instr.fill, hp]
  simp only [hv]
  rw [if_neg (by simp only [Bool.or_eq_true, decide_eq_true_eq, not_or]; exact ⟨by simpa using h1, h2⟩)]
  exact congrArg (fun c => Instr.fill place c rest) h3
theorem fill_done (place : Nat → Option (Nat × Nat)) (cs : Array Value) : Instr.fill place cs [] = some cs := rfl
theorem wpList_buildK {P : Program} {ops : Array Oper} {rest : List Oper} {o : Oper} {a : Act} {w : World} {Q : Exit → Act → World → Prop} (hg : o.guard = none) (t : TypeId) (parts : Array (Nat × Operand)) (ho : o.op = .build t parts) (vals : List (Nat × Value))
    (hv : (parts.map fun (i, x) => (i, a.eval x)).toList = vals) (cells : Array Value) (h : P.built t vals = some cells) (hk : wpList P ops Q rest (a.put o.dst (.agg cells)) w) : wpList P ops Q (o :: rest) a w :=
  wpList_plain hg fun K hK => by
    refine wp_build t parts ho (by rw [hv, h]; rfl) ?_
    rw [hv, h]
    exact hK _ _ hk
theorem wpList_buildSliceK {P : Program} {ops : Array Oper} {rest : List Oper} {o : Oper} {a : Act} {w : World} {Q : Exit → Act → World → Prop} (hg : o.guard = none) (t e : TypeId) (len : Nat) (parts : Array (Nat × Operand)) (ho : o.op = .buildSlice t len parts)
    (cells : Array Value) (ie : TypeInfo) (z : Value) (hu : P.underlying t = some (.slice e)) (hie : P.info? e = some ie) (hz : ie.zero = some z) (hsmall : ¬ len * ie.size > 2 ^ 24) (hpos : ¬ len * ie.size = 0)
    (vals : List (Nat × Value)) (hv : (parts.map fun (i, x) => (i, a.eval x)).toList = vals)
    (hf : Instr.fill (fun i => some (i * ie.size, ie.size)) ((Array.range (len * ie.size)).map (z.cells[· % z.cells.size]!)) vals = some cells)
    (h : wpList P ops Q rest (a.put o.dst (.slice (some ⟨w.heap.size, 0, none⟩) len len)) (w.alloc (.cells cells e))) : wpList P ops Q (o :: rest) a w :=
  wpList_buildSlice hg t e len parts ho cells ie z hu hie hz hsmall hpos (by rw [hv]; exact hf) h
theorem built_of {P : Program} {t : TypeId} {fields : Array Field} {zc : Array Value} {places : List (Nat × Nat)} (hu : P.underlying t = some (.struct fields)) (hz : ((P.info? t).bind (·.zero)).map (·.cells) = some zc)
    (hp : fields.toList.mapM (fun f => (P.info? f.type).map fun i => (f.offset, i.size)) = some places) (parts : List (Nat × Value)) : P.built t parts = Instr.fill (places.toArray[·]?) zc parts := by
  cases hi : P.info? t with
  | none => simp [hi] at hz
  | some it =>
    cases hzz : it.zero with
    | none => simp [hi, hzz] at hz
    | some z =>
      have hzc : z.cells = zc := by simpa [hi, hzz] using hz
      simp [Program.built, hi, hu, hzz, hp, hzc]
theorem ownsRow_far {w : World} {base : Nat} {e : TypeId} {size n : Nat} {v : Value} {xs : List Value} (h : w.ownsRow base e size v n xs) {p : Addr} (hp : p.block < base) (u : Value) : (w.setCell p u).ownsRow base e size v n xs := by
  refine ⟨h.1, ?_⟩
  rcases h.2 with hn | ⟨g, cap, cur, rfl, hb, hgg, hr⟩
  · exact .inl hn
  · exact .inr ⟨g, cap, cur, rfl, hb, by rw [Below.heap_setCell w p u g (by omega)]; exact hgg, hr⟩
/-- An object's cells, written out. -/
def cellsOb (k : Int) (t e p : Value) (x : List Nat) : List Value := .int .i64 k :: t :: e :: (cellsB x ++ [p])
end Go.Proofs.YtcnedkgadfegbaaDoor
/- An object as the document's (cartagelaw06.Of). -/
namespace Go.Proofs.YtcnedkgadfegbaaDoor
open Go Go.RowKit
def Ob.small (o : Ob) : Prop := o.text.length ≤ 400 ∧ o.ents.length ≤ 20 ∧ o.pars.length ≤ 20 ∧ ∀ e ∈ o.ents, e.name.size ≤ 100
def OfPost (o : Ob) (w : World) (e : Ending) (w' : World) : Prop :=
  Below w.heap.size w w' ∧ ∃ cs ok, e = .returned (.tuple #[.agg cs, .bool ok]) ∧ cs.size = 36 ∧ cs.all (·.oneCell') = true ∧ (ok = true → o.small ∧ ∃ T tc E ec P pc, ObC w' o cs T tc E ec P pc)
abbrev nilV : Value := .slice none 0 0
abbrev zc0 : Array Value := (cellsOb 0 nilV nilV nilV (List.replicate 32 0)).toArray
theorem cellsOb_size (k : Int) (t e p : Value) (x : List Nat) (hx : x.length = 32) : (cellsOb k t e p x).toArray.size = 36 := by simp [cellsOb, cellsB_len, hx]
theorem cellsOb_one (k : Int) (A B C : Option Addr) (l1 l2 l3 c1 c2 c3 : Nat) (x : List Nat) : ((cellsOb k (.slice A l1 c1) (.slice B l2 c2) (.slice C l3 c3) x).toArray).all (·.oneCell') = true := by
  rw [Array.all_eq_true_iff_forall_mem]
  intro v hv
  simp only [cellsOb, List.mem_toArray, List.mem_cons, List.mem_append, List.not_mem_nil, or_false] at hv
  rcases hv with rfl | rfl | rfl | hv | rfl
  · rfl
  · rfl
  · rfl
  · exact cellsB_one _ v hv
  · rfl
theorem results_cell_row2 {P : Program} {fn : Func} {p u : Tmp} {ty : TypeId} (h : fn.results = #[.cell p ty, .tmp u]) (tmps : Array Value) (w : World) (g : Nat) (t : TypeId) (cs : Array Value) (d : TypeDesc) (y : Value)
    (hp : tmps.getD p undef = .pointer (some ⟨g, 0, none⟩)) (hy : tmps.getD u undef = y) (hg : Blk w g t cs) (hu : P.underlying ty = some d) (hd : (match d with | .struct _ | .array _ _ => true | _ => false) = true) (hi : (P.info? ty).map (·.size) = some cs.size) :
    (results fn tmps).run P w = .ok (.tuple #[.agg cs, y]) w := by
  rw [results_cell_tmp h, hp, hy]
  have h2 := run_loadVar_row (P := P) w g t ty cs (0, 0) d hg hu hd hi
  simp only [asAddr, Sem.run_pure, Result.andThen_ok, h2]
theorem own_slice {w : World} {base : Nat} {e : TypeId} {size n : Nat} {v : Value} {xs : List Value} (h : w.ownsRow base e size v n xs) : ∃ A c, v = .slice A n c := by
  rcases h.2 with ⟨rfl, rfl⟩ | ⟨g, cap, cur, rfl, _⟩
  · exact ⟨none, 0, rfl⟩
  · exact ⟨_, _, rfl⟩
theorem own_farRow {w : World} {base : Nat} {e : TypeId} {size n : Nat} {v : Value} {xs : List Value} (h : w.ownsRow base e size v n xs) {g : Nat} (hg : ∀ k, v.ownBlock = some k → k ≠ g) (cs : Array Value) : (w.setRow g cs).ownsRow base e size v n xs := by
  refine ⟨h.1, ?_⟩
  rcases h.2 with hn | ⟨k, cap, cur, rfl, hb, hgg, hr⟩
  · exact .inl hn
  · exact .inr ⟨k, cap, cur, rfl, hb, by rw [setRow_other w g k cs (hg k rfl)]; exact hgg, hr⟩
theorem rdk_own {w : World} {base : Nat} {e : TypeId} {size n : Nat} {v : Value} {xs : List Value} (h : w.ownsRow base e size v n xs) : RdK w v n xs := by
  rcases h.2 with ⟨rfl, rfl⟩ | ⟨g, cap, cur, rfl, hb, hgg, hc, _⟩
  · exact RdK.nil _ _
  · exact ⟨_, _, rfl, hc, fun _ => ⟨g, 0, rfl, (Array.getElem?_eq_some_iff.1 hgg).1, fun j u hu => by
      have := h.cells rfl j u hu
      rw [Addr.add_mid] at this
      exact this⟩⟩
theorem cellsOb_set2 (k : Int) (t e p u : Value) (x : List Nat) : (cellsOb k t e p x).toArray.setIfInBounds 2 u = (cellsOb k t u p x).toArray := rfl
theorem cellsOb_set35 (k : Int) (t e p u : Value) (x : List Nat) (hx : x.length = 32) : (cellsOb k t e p x).toArray.setIfInBounds 35 u = (cellsOb k t e u x).toArray := by
  apply Array.ext'
  rw [Array.toList_setIfInBounds]
  show (cellsOb k t e p x).set 35 u = _
  rw [cellsOb, show (35 : Nat) = 32 + 1 + 1 + 1 from rfl, List.set_cons_succ, List.set_cons_succ, List.set_cons_succ, List.set_append_right _ _ (by rw [cellsB_len, hx]; omega), cellsB_len, hx]
  rfl
theorem cellsOb_get35 (k : Int) (t e p : Value) (x : List Nat) (hx : x.length = 32) : (cellsOb k t e p x).toArray[35]? = some p := by
  rw [List.getElem?_toArray, cellsOb, show (35 : Nat) = 32 + 1 + 1 + 1 from rfl, List.getElem?_cons_succ, List.getElem?_cons_succ, List.getElem?_cons_succ, List.getElem?_append_right (by rw [cellsB_len, hx]; omega), cellsB_len, hx]
  rfl
theorem oid32_info : (Tryd.prog.info? 33).map (fun i => (i.zero, i.size, i.bytes)) = some (some (.agg (cellsB (List.replicate 32 0)).toArray), 32, 32) := by kernel_rfl
theorem cellsE1_one (e : Ent) : ∀ v ∈ cellsE1 e, v.oneCell' = true := by
  intro v hv
  rcases List.mem_cons.1 hv with rfl | hv
  · rfl
  · exact cellsB_one _ v hv
theorem arr_one {l : List Value} (h : ∀ v ∈ l, v.oneCell' = true) : l.toArray.all (·.oneCell') = true := by
  rw [Array.all_eq_true_iff_forall_mem]
  exact fun v hv => h v (by simpa using hv)
theorem fill_one (n : Nat) (zc : Array Value) (xs : List Value) (hx : xs.length = n) (_hz : zc.size = n) : Instr.fill (fun i => some (i * n, n)) ((Array.range (1 * n)).map (zc[· % zc.size]!)) [(0, .agg xs.toArray)] = some xs.toArray := by
  obtain ⟨old, ho⟩ : ∃ old : List Value, (Array.range (1 * n)).map (zc[· % zc.size]!) = old.toArray := ⟨_, (Array.toArray_toList ..).symm⟩
  have hl : old.length = n := by
    have := congrArg Array.size ho
    simpa using this.symm
  rw [ho]
  have h := fill_part (fun i => some (i * n, n)) 0 0 n (.agg xs.toArray) [] xs old [] [] (by simp) rfl hx hl rfl
  rw [List.nil_append, List.append_nil, List.nil_append, List.append_nil] at h
  exact h
end Go.Proofs.YtcnedkgadfegbaaDoor
