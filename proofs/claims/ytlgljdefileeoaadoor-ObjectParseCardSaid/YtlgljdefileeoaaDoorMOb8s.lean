/- The chapter's example of layer 6: strange, rightEntries, aims, Wanted. -/
import Derived.Test.YtlgljdefileeoaaDoorMOct18s
namespace Go.Proofs.YtlgljdefileeoaaDoor
open Go Go.RowKit
abbrev zeros32 : List Nat := List.replicate 32 0
/-- the blob x -/
def blobX : Ob := ⟨1, [120], [], zeros32, []⟩
theorem zeros_id : Id32 zeros32 := ⟨by simp, fun i => by
  rw [List.getD_eq_getElem?_getD]
  by_cases h : i < 32
  · simp [h]
  · simp [h]⟩
theorem blobX_fit : blobX.Fit := ⟨fun i => by
    rcases i with _ | i
    · decide
    · simp [blobX], fun e h => absurd h (by simp [blobX]), zeros_id, fun e h => absurd h (by simp [blobX])⟩
theorem aims_one (w : World) : Calls Tryd.prog 25 #[.int .i64 1] w fun e w' => e = .returned (.bool false) ∧ w = w' := by
  go_enter Tryd.func25, Tryd.ntmps25
  go_wp2
  go_ret
  exact ⟨rfl, rfl⟩
theorem rents_nil (A : Option Addr) (c : Nat) (w : World) : Calls Tryd.prog 24 #[.slice A 0 c] w fun e w' => e = .returned (.bool true) ∧ w = w' := by
  go_enter Tryd.func24, Tryd.ntmps24
  go_wp2
  go_loopw [10] (fun i wr => i = .int .i64 0 ∧ wr = w) (fun _ _ => 0)
  case atStart => exact ⟨rfl, rfl⟩
  case round =>
    obtain ⟨rfl, rfl⟩ := hrel
    go_wp2
    go_ret
    exact ⟨rfl, rfl⟩
set_option maxRecDepth 100000 in
set_option maxHeartbeats 1000000 in
theorem strange_blob (cs : Array Value) (T E P : Option Addr) (tc ec pc : Nat) (w : World) (h : ObC w blobX cs T tc E ec P pc) :
    Calls Tryd.prog 23 #[.agg cs] w fun e w' => e = .returned (.bool false) ∧ Below w.heap.size w w' := by
  obtain ⟨w2, hw2⟩ : ∃ w2, w2 = w.alloc (.cells cs 30) := ⟨_, rfl⟩
  have HBE := Lib.hid (show Below w.heap.size w w2 from hw2 ▸ (Below.refl _ _).alloc (Nat.le_refl _) _)
  have B1 : Blk w2 w.heap.size 30 cs := hw2 ▸ Blk.new w _ cs
  have a0 : w2.cell? ⟨w.heap.size, 0, none⟩ = some (.int .i64 1) := (B1.cell 0).trans h.c0
  have a1 : w2.cell? ⟨w.heap.size, 1, none⟩ = some (.slice T 1 tc) := (B1.cell 1).trans h.c1
  have a2 : w2.cell? ⟨w.heap.size, 2, none⟩ = some (.slice E 0 ec) := (B1.cell 2).trans h.c2
  have a3 : w2.cell? ⟨w.heap.size, 35, none⟩ = some (.slice P 0 pc) := (B1.cell 35).trans (h.c35 blobX_fit)
  have M1 := Lib.hid (h.mid B1)
  have n1 : (Tryd.prog.info? 27).map (·.size) = some (cellsB blobX.target).length := by rw [show (cellsB blobX.target).length = 32 from cellsP1_len zeros_id]; kernel_rfl
  have N1 := Lib.hid n1
  have q0 := id_eq w2 zeros32 zeros32 zeros_id zeros_id
  rw [eqv_self] at q0
  have hz : (cellsB zeros32).toArray = #[.int .u8 0, .int .u8 0, .int .u8 0, .int .u8 0, .int .u8 0, .int .u8 0, .int .u8 0, .int .u8 0, .int .u8 0, .int .u8 0, .int .u8 0, .int .u8 0, .int .u8 0, .int .u8 0, .int .u8 0, .int .u8 0, .int .u8 0, .int .u8 0, .int .u8 0, .int .u8 0, .int .u8 0, .int .u8 0, .int .u8 0, .int .u8 0, .int .u8 0, .int .u8 0, .int .u8 0, .int .u8 0, .int .u8 0, .int .u8 0, .int .u8 0, .int .u8 0] := rfl
  have hw3 := hw2.symm
  have HQ := Lib.hid q0
  clear h B1 hw2 n1 q0
  go_enter Tryd.func23, Tryd.ntmps23
  go_wp2_with (with_reducible (show wpList _ _ _ (Oper.mk _ (Op.load 27 _) _ _ _ _ :: _) _ _); refine pause ?_)
  unfold Paused
  refine wpList_mid_w (by rfl) 27 (.tmp 24) (by rfl) w.heap.size 3 (by rfl) _ _ M1.out Tryd.underlying27 (by rfl) N1.out ?_
  change wpList _ _ _ _ (Act.put _ _ (.agg (cellsB zeros32).toArray)) _
  rw [hz]
  have q1 := HQ.out
  rw [hz] at q1
  go_wp2
  go_ret
  exact ⟨rfl, HBE.out⟩
end Go.Proofs.YtlgljdefileeoaaDoor
/- The chapter's example of layer 6: front, Right, Bytes, alive. -/
namespace Go.Proofs.YtlgljdefileeoaaDoor
open Go Go.RowKit
theorem ap_bytes {o : Oper} {a : Act} {w : World} {K : Act → World → Prop} {Q : Exit → Act → World → Prop} (s x : Operand)
    (ho : o.op = .call { callee := .builtin .append, args := #[s, x], argTypes := #[22, 22] }) (base : Nat) (v : Value) (ys : List Nat) (hs : a.eval s = v) (hown : w.ownsRow base 5 1 v ys.length (cellsB ys)) (hbase : base ≤ w.heap.size)
    (u : Value) (hx : a.eval x = u) (xs : List Nat) (hu : Rd w u xs) (hz : ys.length + xs.length ≤ 70368744177664)
    (h : ∀ v' w', w'.ownsRow base 5 1 v' (ys ++ xs).length (cellsB (ys ++ xs)) → w.grownBy w' v.ownBlock → K (a.put o.dst v') w') : o.wp Tryd.prog a w K Q := by
  obtain ⟨i0, hi0, hiz, his, hib⟩ := info_parts byte_info
  obtain ⟨A, c, rfl, hc, hA⟩ := hu
  have e0 : cellsB ys ++ cellsB xs = cellsB (ys ++ xs) := by simp [cellsB]
  cases A with
  | some ad =>
    refine wp_append_own w s x 22 ho base 5 i0 _ 1 1 Tryd.underlying22 hi0 hiz his hib rfl (by decide) v ys.length (cellsB ys) hs hown ad xs.length c (cellsB xs) hx (by rw [cellsB_len, Nat.mul_one]) ?_ (cellsB_one _) (by unfold maxLen; omega) (by omega) hbase ?_
    · intro j t hj
      have hjl : j < xs.length := by have := (List.getElem?_eq_some_iff.1 hj).1; rwa [cellsB_len] at this
      obtain ⟨b, o', ha, _, hxx⟩ := hA (by omega)
      obtain rfl := Option.some.inj ha
      rw [cellsB_get hjl] at hj
      rw [Addr.add_mid, hxx j hjl, hj]
    · intro v' w' h1 h2 _
      rw [e0, ← List.length_append] at h1
      exact h v' w' h1 h2
  | none =>
    have hn : xs.length = 0 := by
      rcases Nat.eq_zero_or_pos xs.length with h0 | h0
      · exact h0
      · obtain ⟨b, o', ha, _⟩ := hA h0
        cases ha
    have e : xs = [] := List.eq_nil_of_length_eq_zero hn
    subst e
    have hrun : ∀ ty, (Builtin.append_ #[22, 22] ty #[v, .slice none 0 c]).run Tryd.prog w = .ok v w := fun ty => by
      rcases hown.2 with ⟨hv, hn0⟩ | ⟨g, cap, cur, hv, _, _, hnc, _⟩
      · rw [hv]
        simp [Builtin.append_, run_underlying Tryd.underlying22, sizeOf, typeInfo, hi0, Builtin.lenOf, Builtin.firstCells]
      · rw [hv]
        simp [Builtin.append_, run_underlying Tryd.underlying22, sizeOf, typeInfo, hi0, Builtin.lenOf, Builtin.firstCells, hnc, storeCells]
    unfold Oper.wp execOp
    simp only [ho, resolve, invoke, builtin, Sem.run_bind, Sem.run_pure, Result.andThen_ok, List.map_toArray, List.map_cons, List.map_nil, hs, hx]
    rw [show ([] : List Nat).length = 0 from rfl, hrun]
    exact h _ _ (by rw [List.append_nil]; exact hown) (World.grownBy.refl w _)

theorem ObC.drewN {w : World} {o : Ob} {cs : Array Value} {T E P : Option Addr} {tc ec pc : Nat} (h : ObC w o cs T tc E ec P pc) (n : Nat) : ObC (w.drewN n) o cs T tc E ec P pc := h.below (below_drewN (Below.refl _ _) n) (Nat.le_refl _)
/-- An object's box, and what stays of it. -/
structure Box (w0 w : World) (g : Nat) (t : TypeId) (cs : Array Value) : Prop where
  at_ : Blk w g t cs
  bel : Below w0.heap.size w0 w
theorem Box.go {w0 w w' : World} {g : Nat} {t : TypeId} {cs : Array Value} (h : Box w0 w g t cs) (k : Below w.heap.size w w') : Box w0 w' g t cs :=
  ⟨h.at_.below k h.at_.lt, ⟨k.os.trans h.bel.os, k.tape.trans h.bel.tape, k.output.trans h.bel.output, Nat.le_trans h.bel.size k.size, fun i hi => (k.block i (Nat.lt_of_lt_of_le hi h.bel.size)).trans (h.bel.block i hi)⟩⟩
theorem Box.new (w : World) (t : TypeId) (cs : Array Value) : Box w (w.alloc (.cells cs t)) w.heap.size t cs := ⟨Blk.new w t cs, (Below.refl _ _).alloc (Nat.le_refl _) _⟩
theorem Box.drew {w0 w : World} {g : Nat} {t : TypeId} {cs : Array Value} (h : Box w0 w g t cs) : Box w0 w.drew g t cs := ⟨h.at_.drew, below_drewN h.bel 1⟩
set_option maxRecDepth 100000 in
set_option maxHeartbeats 1000000 in
theorem front_blob (cs : Array Value) (T E P : Option Addr) (tc ec pc : Nat) (w : World) (h : ObC w blobX cs T tc E ec P pc) :
    Calls Tryd.prog 22 #[.agg cs] w fun e w' => ∃ A c, e = .returned (.slice A 1 c) ∧ Pad w.heap.size w (.slice A 1 c) [98] w' := by
  obtain ⟨w2, hw2⟩ : ∃ w2, w2 = w.alloc (.cells cs 30) := ⟨_, rfl⟩
  have hB : Below w.heap.size w w2 := hw2 ▸ (Below.refl _ _).alloc (Nat.le_refl _) _
  have B1 : Blk w2 w.heap.size 30 cs := hw2 ▸ Blk.new w _ cs
  obtain ⟨w3, hw3⟩ : ∃ w3, w3 = w2.alloc (.cells #[.int .u8 98] 5) := ⟨_, rfl⟩
  have hsz : w2.heap.size = w.heap.size + 1 := by rw [hw2]; simp
  have HP : Hid (Pad w.heap.size w (.slice (some ⟨w.heap.size + 1, 0, none⟩) 1 1) [98] w3) := Lib.hid (by
    have h1 := World.ownsRow_lit (base := w.heap.size) (e := 5) (size := 1) w2 #[.int .u8 98] 1 (by rw [hsz]; omega) (by decide) rfl
    rw [hsz, ← hw3] at h1
    exact ⟨h1, hw3 ▸ hB.alloc hB.size _⟩)
  have a0 : w2.cell? ⟨w.heap.size, 0, none⟩ = some (.int .i64 1) := (B1.cell 0).trans h.c0
  have B3 : Blk w3 w.heap.size 30 cs := hw3 ▸ B1.alloc _
  have b0 : w3.cell? ⟨w.heap.size, 0, none⟩ = some (.int .i64 1) := (B3.cell 0).trans h.c0
  have b2 : w3.cell? ⟨w.heap.size, 2, none⟩ = some (.slice E 0 ec) := (B3.cell 2).trans h.c2
  have b3 : w3.cell? ⟨w.heap.size, 35, none⟩ = some (.slice P 0 pc) := (B3.cell 35).trans (h.c35 blobX_fit)
  have CA := aims_one w3
  have e2 := hw2.symm
  have e3 := hw3.symm
  have L0 : (((⟨#[98, 116, 99, 103]⟩ : ByteArray)[0]'(by decide)).toNat : Int) = 98 := rfl
  clear h B1 B3 hw2 hw3 hB
  go_enter Tryd.func22, Tryd.ntmps22
  go_wp2
  go_loopw [3, 16] (fun v i wr => v = .slice (some ⟨w.heap.size + 1, 0, none⟩) 1 1 ∧ i = .int .i64 0 ∧ wr = w3) (fun _ _ _ => 0)
  case atStart => exact ⟨rfl, rfl, rfl⟩
  case round =>
    obtain ⟨rfl, rfl, hwr⟩ := hrel
    obtain rfl := hwr.symm
    go_wp2_with (go_at_call 25; refine CA.mono ?_; rintro e w' ⟨rfl, rfl⟩)
    go_loopw [3, 56] (fun v i wr => v = .slice (some ⟨w.heap.size + 1, 0, none⟩) 1 1 ∧ i = .int .i64 0 ∧ wr = w3) (fun _ _ _ => 0)
    case atStart => exact ⟨rfl, rfl, rfl⟩
    case round =>
      obtain ⟨rfl, rfl, rfl⟩ := hrel
      go_wp2
      go_ret
      exact ⟨_, _, rfl, HP.out⟩
theorem below_next {a b c : World} (h : Below a.heap.size a b) (k : Below b.heap.size b c) : Below a.heap.size a c :=
  ⟨k.os.trans h.os, k.tape.trans h.tape, k.output.trans h.output, Nat.le_trans h.size k.size, fun i hi => (k.block i (Nat.lt_of_lt_of_le hi h.size)).trans (h.block i hi)⟩
set_option maxRecDepth 100000 in
set_option maxHeartbeats 1000000 in
theorem right_blob (cs : Array Value) (T E P : Option Addr) (tc ec pc : Nat) (w : World) (h : ObC w blobX cs T tc E ec P pc) :
    Calls Tryd.prog 14 #[.agg cs] w fun e w' => e = .returned (.bool true) ∧ Below w.heap.size w w' := by
  obtain ⟨w2, hw2⟩ : ∃ w2, w2 = w.alloc (.cells cs 30) := ⟨_, rfl⟩
  have X1 : Box w w2 w.heap.size 30 cs := hw2 ▸ Box.new w _ cs
  have HC := Lib.hid h
  have hsz := h.size blobX_fit
  have k0 := h.c0
  have k1 := h.c1
  have k2 := h.c2
  have k3 := h.c35 blobX_fit
  have a0 : w2.cell? ⟨w.heap.size, 0, none⟩ = some (.int .i64 1) := (X1.at_.cell 0).trans k0
  have n1 : (Tryd.prog.info? 30).map (·.size) = some cs.size := by rw [hsz]; kernel_rfl
  have CS := strange_blob cs T E P tc ec pc w2 (h.below X1.bel (Nat.le_refl _))
  have HX1 := Lib.hid X1
  have N1 := Lib.hid n1
  have K1 := Lib.hid k1
  have K2 := Lib.hid k2
  have K3 := Lib.hid k3
  have e2 := hw2.symm
  clear h X1 hw2 n1 hsz k0 k1 k2 k3
  go_enter Tryd.func14, Tryd.ntmps14
  go_wp2_with (with_reducible (show wpList _ _ _ (Oper.mk _ (Op.load 30 _) _ _ _ _ :: _) _ _); refine pause ?_)
  unfold Paused
  refine wpList_row_w (by rfl) 30 (.tmp 1) (by rfl) w.heap.size (by rfl) 30 cs _ HX1.out.at_ Tryd.underlying30 (by rfl) N1.out ?_
  go_wp2_with (go_at_call 23; refine pause ?_)
  unfold Paused
  refine CS.mono ?_
  rintro e w3 ⟨rfl, hb⟩
  have HX3 := Lib.hid (HX1.out.go hb)
  have b2 : w3.cell? ⟨w.heap.size, 2, none⟩ = some (.slice E 0 ec) := (HX3.out.at_.cell 2).trans K2.out
  have b3 : w3.cell? ⟨w.heap.size, 35, none⟩ = some (.slice P 0 pc) := (HX3.out.at_.cell 35).trans K3.out
  have CR := rents_nil E ec w3
  have CF : ∀ w', Below w3.heap.size w3 w' → Calls Tryd.prog 22 #[.agg cs] w' _ := fun w' hb => front_blob cs T E P tc ec pc w' (HC.out.below (HX3.out.go hb).bel (Nat.le_refl _))
  have c1 : ∀ w', Below w3.heap.size w3 w' → w'.cell? ⟨w.heap.size, 1, none⟩ = some (.slice T 1 tc) := fun w' hb => ((HX3.out.go hb).at_.cell 1).trans K1.out
  clear hb a0 CS e2
  go_wp2_with (go_at_call 24; refine CR.mono ?_; rintro e w' ⟨rfl, rfl⟩)
  refine wp_region_held (S := (fun w' => Below w3.heap.size w3 w')) (by kernel_rfl) ?_
  change wpAnyH _ _ _ _ _ _ _ _ w3.drew
  have HS0 := Lib.hid (below_drewN (Below.refl w3.heap.size w3) 1)
  refine wpAnyH_take (i := 0) rfl (by kernel_rfl) (by kernel_rfl) (by kernel_rfl) (fun _ _ _ h => h) (takes_row 30 (.tmp 1) rfl (by rfl) w.heap.size rfl 30 cs _ (fun w' h => (HX3.out.go h).at_) Tryd.underlying30 rfl N1.out) (HS0.out) ?_
  try simp only [Act.put, List.getElem_toArray, List.getElem_cons_zero, List.setIfInBounds_toArray, List.set_cons_zero, List.set_cons_succ]
  refine wpAnyH_take (i := 3) (v := ?_) rfl (by kernel_rfl) (by kernel_rfl) (by kernel_rfl) (fun _ _ _ h => h) (Or.inl ⟨by rfl, ?_⟩) (HS0.out) ?_
  rotate_left
  · intro w' hw; go_simp; with_reducible rfl
  try simp only [Act.put, List.getElem_toArray, List.getElem_cons_zero, List.getElem_cons_succ, List.setIfInBounds_toArray, List.set_cons_zero, List.set_cons_succ]
  refine wpAnyH_take (i := 4) (v := ?_) rfl (by kernel_rfl) (by kernel_rfl) (by kernel_rfl) (fun _ _ _ h => h) (Or.inl ⟨by rfl, ?_⟩) (HS0.out) ?_
  rotate_left
  · intro w' hw; go_simp; with_reducible rfl
  try simp only [Act.put, List.getElem_toArray, List.getElem_cons_zero, List.getElem_cons_succ, List.setIfInBounds_toArray, List.set_cons_zero, List.set_cons_succ]
  refine wpAnyH_take (i := 5) (v := ?_) rfl (by kernel_rfl) (by kernel_rfl) (by kernel_rfl) (fun _ _ _ h => h) (Or.inl ⟨by rfl, ?_⟩) (HS0.out) ?_
  rotate_left
  · intro w' hw; go_simp; with_reducible rfl
  try simp only [Act.put, List.getElem_toArray, List.getElem_cons_zero, List.getElem_cons_succ, List.setIfInBounds_toArray, List.set_cons_zero, List.set_cons_succ]
  refine all_one (i := 1) (by kernel_rfl) rfl (by rfl) (fun K hK => ?_)
  go_simp
  refine (CF _ HS0.out).mono ?_
  rintro e w4 ⟨A, c, rfl, hp⟩
  have HS1 : Hid (Below w3.heap.size w3 w4) := Lib.hid (below_next HS0.out hp.bel)
  dsimp only
  refine hK _ _ HS1.out ?_; clear hK K
  try simp only [Act.put, List.getElem_toArray, List.getElem_cons_zero, List.getElem_cons_succ, List.setIfInBounds_toArray, List.set_cons_zero, List.set_cons_succ]
  refine wpAnyH_take (i := 2) (v := ?_) rfl (by kernel_rfl) (by kernel_rfl) (by kernel_rfl) (fun _ _ _ h => h) (Or.inl ⟨by rfl, ?_⟩) (HS1.out) ?_
  rotate_left
  · intro w' hw; go_simp; with_reducible rfl
  try simp only [Act.put, List.getElem_toArray, List.getElem_cons_zero, List.getElem_cons_succ, List.setIfInBounds_toArray, List.set_cons_zero, List.set_cons_succ]
  refine wpAnyH_take (i := 6) (v := ?_) rfl (by kernel_rfl) (by kernel_rfl) (by kernel_rfl) (fun _ _ _ h => h) (Or.inl ⟨by rfl, ?_⟩) (HS1.out) ?_
  rotate_left
  · intro w' hw; go_simp; with_reducible rfl
  try simp only [Act.put, List.getElem_toArray, List.getElem_cons_zero, List.getElem_cons_succ, List.setIfInBounds_toArray, List.set_cons_zero, List.set_cons_succ]
  refine wpAnyH_take (i := 7) (v := ?_) rfl (by kernel_rfl) (by kernel_rfl) (by kernel_rfl) (fun _ _ _ h => h) (Or.inl ⟨by rfl, ?_⟩) (HS1.out) ?_
  rotate_left
  · intro w' hw; go_simp; with_reducible rfl
  try simp only [Act.put, List.getElem_toArray, List.getElem_cons_zero, List.getElem_cons_succ, List.setIfInBounds_toArray, List.set_cons_zero, List.set_cons_succ]
  refine wpAnyH_take (i := 8) (v := ?_) rfl (by kernel_rfl) (by kernel_rfl) (by kernel_rfl) (fun _ _ _ h => h) (Or.inl ⟨by rfl, ?_⟩) (HS1.out) ?_
  rotate_left
  · intro w' hw; go_simp; with_reducible rfl
  try simp only [Act.put, List.getElem_toArray, List.getElem_cons_zero, List.getElem_cons_succ, List.setIfInBounds_toArray, List.set_cons_zero, List.set_cons_succ]
  refine wpAnyH_done (by kernel_rfl) ?_ _
  go_wp2
  go_ret
  exact ⟨rfl, (HX3.out.go HS1.out).bel⟩
set_option maxRecDepth 100000 in
set_option maxHeartbeats 1000000 in
theorem bytes_blob (cs : Array Value) (T E P : Option Addr) (tc ec pc : Nat) (w : World) (h : ObC w blobX cs T tc E ec P pc) :
    Calls Tryd.prog 12 #[.agg cs] w fun e w' => ∃ v, e = .returned (.tuple #[v, .nilIface]) ∧ Rd w' v [98, 120] ∧ Below w.heap.size w w' := by
  obtain ⟨w2, hw2⟩ : ∃ w2, w2 = w.alloc (.cells cs 30) := ⟨_, rfl⟩
  have X1 : Box w w2 w.heap.size 30 cs := hw2 ▸ Box.new w _ cs
  have HC := Lib.hid h
  have hsz := h.size blobX_fit
  have n1 : (Tryd.prog.info? 30).map (·.size) = some cs.size := by rw [hsz]; kernel_rfl
  have CR := right_blob cs T E P tc ec pc w2 (h.below X1.bel (Nat.le_refl _))
  have HX1 := Lib.hid X1
  have N1 := Lib.hid n1
  have K1 := Lib.hid h.c1
  have e2 := hw2.symm
  clear h X1 hw2 n1 hsz
  go_enter Tryd.func12, Tryd.ntmps12
  go_wp2_with (with_reducible (show wpList _ _ _ (Oper.mk _ (Op.load 30 _) _ _ _ _ :: _) _ _); refine pause ?_)
  unfold Paused
  refine wpList_row_w (by rfl) 30 (.tmp 1) (by rfl) w.heap.size (by rfl) 30 cs _ HX1.out.at_ Tryd.underlying30 (by rfl) N1.out ?_
  go_wp2_with (go_at_call 14; refine pause ?_)
  unfold Paused
  refine CR.mono ?_
  rintro e w3 ⟨rfl, hb⟩
  have HX3 := Lib.hid (HX1.out.go hb)
  have CF : ∀ w', Below w3.heap.size w3 w' → Calls Tryd.prog 22 #[.agg cs] w' _ := fun w' hb => front_blob cs T E P tc ec pc w' (HC.out.below (HX3.out.go hb).bel (Nat.le_refl _))
  have c1 : ∀ w', Below w3.heap.size w3 w' → w'.cell? ⟨w.heap.size, 1, none⟩ = some (.slice T 1 tc) := fun w' hb => ((HX3.out.go hb).at_.cell 1).trans K1.out
  clear hb CR e2
  go_wp2
  refine wp_region_held (S := (fun w' => Below w3.heap.size w3 w')) (by kernel_rfl) ?_
  change wpAnyH _ _ _ _ _ _ _ _ w3.drew
  have HS0 := Lib.hid (below_drewN (Below.refl w3.heap.size w3) 1)
  refine wpAnyH_take (i := 0) rfl (by kernel_rfl) (by kernel_rfl) (by kernel_rfl) (fun _ _ _ h => h) (takes_row 30 (.tmp 1) rfl (by rfl) w.heap.size rfl 30 cs _ (fun w' h => (HX3.out.go h).at_) Tryd.underlying30 rfl N1.out) (HS0.out) ?_
  try simp only [Act.put, List.getElem_toArray, List.getElem_cons_zero, List.setIfInBounds_toArray, List.set_cons_zero, List.set_cons_succ]
  refine wpAnyH_take (i := 2) (v := ?_) rfl (by kernel_rfl) (by kernel_rfl) (by kernel_rfl) (fun _ _ _ h => h) (Or.inl ⟨by rfl, ?_⟩) (HS0.out) ?_
  rotate_left
  · intro w' hw; go_simp; with_reducible rfl
  try simp only [Act.put, List.getElem_toArray, List.getElem_cons_zero, List.getElem_cons_succ, List.setIfInBounds_toArray, List.set_cons_zero, List.set_cons_succ]
  refine wpAnyH_take (i := 3) (v := ?_) rfl (by kernel_rfl) (by kernel_rfl) (by kernel_rfl) (fun _ _ _ h => h) (Or.inl ⟨by rfl, ?_⟩) (HS0.out) ?_
  rotate_left
  · intro w' hw; go_simp; with_reducible rfl
  try simp only [Act.put, List.getElem_toArray, List.getElem_cons_zero, List.getElem_cons_succ, List.setIfInBounds_toArray, List.set_cons_zero, List.set_cons_succ]
  refine all_one (i := 1) (by kernel_rfl) rfl (by rfl) (fun K hK => ?_)
  go_simp
  refine (CF _ HS0.out).mono ?_
  rintro e w4 ⟨A, c, rfl, hp⟩
  have HS1 : Hid (Below w3.heap.size w3 w4) := Lib.hid (below_next HS0.out hp.bel)
  have HPD := Lib.hid hp
  dsimp only
  refine hK _ _ HS1.out ?_; clear hK K
  try simp only [Act.put, List.getElem_toArray, List.getElem_cons_zero, List.getElem_cons_succ, List.setIfInBounds_toArray, List.set_cons_zero, List.set_cons_succ]
  have HRT : Hid (Rd w4 (.slice T 1 tc) [120]) := Lib.hid (HC.out.text.below (HX3.out.go HS1.out).bel (Nat.le_refl _))
  have hle : w3.drew.heap.size ≤ w4.heap.size := hp.bel.size
  refine all_one (i := 4) (by kernel_rfl) rfl (by rfl) (fun K hK => ?_)
  refine ap_bytes (.tmp 9) (.tmp 11) rfl w3.drew.heap.size _ [98] rfl HPD.out.own hle _ rfl [120] HRT.out (by decide) ?_
  intro v2 w5 ho2 hg2
  have HB5 : Hid (Below w3.drew.heap.size w3.drew w5) := Lib.hid (below_own HPD.out.bel HPD.out.own (Nat.le_refl _) hg2)
  have HS2 : Hid (Below w3.heap.size w3 w5) := Lib.hid (below_next HS0.out HB5.out)
  have HR2 : Hid (Rd w5 v2 [98, 120]) := Lib.hid (rd_of_own ho2 rfl)
  clear ho2 hg2
  refine hK _ _ HS2.out ?_; clear hK K
  try simp only [Act.put, List.getElem_toArray, List.getElem_cons_zero, List.getElem_cons_succ, List.setIfInBounds_toArray, List.set_cons_zero, List.set_cons_succ]
  refine wpAnyH_take (i := 5) (v := ?_) rfl (by kernel_rfl) (by kernel_rfl) (by kernel_rfl) (fun _ _ _ h => h) (Or.inl ⟨by rfl, ?_⟩) (HS2.out) ?_
  rotate_left
  · intro w' hw; go_simp; with_reducible rfl
  try simp only [Act.put, List.getElem_toArray, List.getElem_cons_zero, List.getElem_cons_succ, List.setIfInBounds_toArray, List.set_cons_zero, List.set_cons_succ]
  refine wpAnyH_take (i := 6) (v := ?_) rfl (by kernel_rfl) (by kernel_rfl) (by kernel_rfl) (fun _ _ _ h => h) (Or.inl ⟨by rfl, ?_⟩) (HS2.out) ?_
  rotate_left
  · intro w' hw; go_simp; with_reducible rfl
  try simp only [Act.put, List.getElem_toArray, List.getElem_cons_zero, List.getElem_cons_succ, List.setIfInBounds_toArray, List.set_cons_zero, List.set_cons_succ]
  refine wpAnyH_done (by kernel_rfl) ?_ _
  go_wp2
  go_ret2
  exact ⟨_, rfl, HR2.out, (HX3.out.go HS2.out).bel⟩
end Go.Proofs.YtlgljdefileeoaaDoor
