/- One update, one text: what tells it, and is it right (the closures of entry.Updates and entry.objects). -/
import Derived.Test.YtgcgomdhdgjpdaaGreatDoorMNmMaths
import Derived.Test.YtgcgomdhdgjpdaaGreatDoorMShelfs
import Derived.Test.YtgcgomdhdgjpdaaGreatDoorMOb30s
import Derived.Test.YtgcgomdhdgjpdaaGreatDoorMLawOpenEns
namespace Go.Proofs.YtgcgomdhdgjpdaaGreatDoor
open Go Go.RowKit
theorem takes_midE {P : Program} {ops : Array Oper} {S : World → Prop} {o : Oper} {a : Act} (ty : TypeId) (x : Operand) (ho : o.op = .load ty x) (hw : Region.wanted o (yielded ops a.tmps) = true)
  (b off : Nat) (hx : a.eval x = .pointer (some ⟨b, off, none⟩)) (cs : List Value) (d : TypeDesc) (hc : ∀ w, S w → w.rangeAt b off cs)
  (hu : P.underlying ty = some d) (hd : d.isRow = true) (hi : (P.info? ty).map (·.size) = some cs.length) : YieldsIf P ops S o (.agg cs.toArray) a :=
 Or.inl ⟨hw, fun w h => by
  unfold execOp
  simp only [ho, hx, Instr.loadAt, Instr.sureAddr, Sem.run_bind, Sem.run_pure, Result.andThen_ok, run_loadVar_mid w b off ty cs d (hc w h) hu hd hi]⟩
theorem exec_neqE {P : Program} {o : Oper} {a : Act} {w : World} (t : TypeId) (x y : Operand) {z : TypeId} (ho : o.op = .binOp .neq t x y z) (xs ys : Array Value) (hx : a.eval x = .agg xs) (hy : a.eval y = .agg ys) {r : Bool}
  (h : (Op.equalIn 10000 t (.agg xs) (.agg ys)).run P w = .ok r w) (hm : P.eqGuardType P.depth t = false := by kernel_rfl) : (execOp a.eval o).run P w = .ok (.value (.bool (!r))) w := by
 unfold execOp
 simp only [ho, hx, hy, Sem.run_bind, run_eqGuard_agg w .neq t x y xs ys hm, run_neq_struct, h, Result.andThen_ok]
 rfl
theorem up_rng_old {w : World} {g : Nat} {u : En.Up} (hf : u.Fit) (h : Blk w g 89 (cellsU1 u).toArray) : w.rangeAt g 1 (cellsB u.old) := fun j v hj => by
 have hl : j < 32 := by have := (List.getElem?_eq_some_iff.1 hj).1; rwa [cellsB_len, hf.1.1] at this
 rw [h.cell, List.getElem?_toArray, cellsU1, Nat.add_comm 1 j, List.getElem?_cons_succ, List.getElem?_append_left (by rw [cellsB_len, hf.1.1]; exact hl)]
 exact hj
theorem up_rng_new {w : World} {g : Nat} {u : En.Up} (hf : u.Fit) (h : Blk w g 89 (cellsU1 u).toArray) : w.rangeAt g 33 (cellsB u.new) := fun j v hj => by
 have hl : j < 32 := by have := (List.getElem?_eq_some_iff.1 hj).1; rwa [cellsB_len, hf.2.1] at this
 rw [h.cell, List.getElem?_toArray, cellsU1, show 33 + j = (32 + j) + 1 by omega, List.getElem?_cons_succ, List.getElem?_append_right (by rw [cellsB_len, hf.1.1]; omega), cellsB_len, hf.1.1, show 32 + j - 32 = j by omega]
 exact hj
set_option maxRecDepth 100000 in
set_option maxHeartbeats 2000000 in
theorem upd1_any (u : En.Up) (hu : u.Fit) (w : World) (hm : MaxAt w) :
  Calls Tryz.prog 101 #[.agg (cellsU1 u).toArray] w fun e w' => e = .returned (.tuple #[.string u.ref, .bool (En.upKey u).2]) ∧ Below w.heap.size w w' := by
 obtain ⟨w1, hw1⟩ : ∃ w1, w1 = w.alloc (.cells (cellsU1 u).toArray 89) := ⟨_, rfl⟩
 have b1 : Below w.heap.size w w1 := hw1 ▸ (Below.refl _ _).alloc (Nat.le_refl _) _
 have HX : Hid (Blk w1.drew w.heap.size 89 (cellsU1 u).toArray) := Lib.hid (hw1 ▸ Blk.new w _ _)
 have HB := Lib.hid b1
 have HM : Hid (∀ n, MaxAt (w1.drewN n)) := Lib.hid (fun n => hm.below (below_drewN b1 n) (Nat.le_refl _))
 have CR := ref_any u.ref w1.drew (HM.out 1)
 have HU := Lib.hid hu
 have HK : Hid ((En.upKey u).2 = (Nm.ref u.ref.data.toList && !(eqv u.old u.new))) := Lib.hid rfl
 have HE : Hid (∀ w', (Op.equalIn 10000 41 (.agg (cellsB u.old).toArray) (.agg (cellsB u.new).toArray)).run Tryz.prog w' = .ok (eqv u.old u.new) w') := Lib.hid (fun w' => id_eq9 9998 w' u.old u.new hu.1 hu.2)
 have h0 : (cellsU1 u).toArray[0]? = some (.string u.ref) := rfl
 have H0 := Lib.hid h0
 generalize (En.upKey u).2 = R at HK ⊢
 generalize Nm.ref u.ref.data.toList = r1 at HK CR
 generalize u.ref = tx at CR H0 ⊢
 have e1 := hw1.symm
 clear b1 hw1 hm h0 hu
 go_enter Tryz.func101, Tryz.ntmps101
 go_wp2_with fail
 refine wp_region_held (S := (fun w' => Blk w' w.heap.size 89 (cellsU1 u).toArray)) (by kernel_rfl) ?_
 change wpAnyH _ _ _ _ _ _ _ _ w1.drew
 refine wpAnyH_take (i := 0) (v := ?_) rfl (by kernel_rfl) (by kernel_rfl) (by kernel_rfl) (fun _ _ _ h => h) (Or.inl ⟨by rfl, ?_⟩) HX.out ?_
 rotate_left
 ·intro w' hS; go_simp; with_reducible rfl
 try simp only [Act.put, List.getElem_toArray, List.getElem_cons_zero, List.setIfInBounds_toArray, List.set_cons_zero, List.set_cons_succ]
 refine wpAnyH_take (i := 1) (v := ?_) rfl (by kernel_rfl) (by kernel_rfl) (by kernel_rfl) (fun _ _ _ h => h) (Or.inl ⟨by rfl, ?_⟩) HX.out ?_
 rotate_left
 ·intro w' hS; have h0 := (Blk.cell hS 0).trans H0.out; go_simp; with_reducible rfl
 try simp only [Act.put, List.getElem_toArray, List.getElem_cons_zero, List.getElem_cons_succ, List.setIfInBounds_toArray, List.set_cons_zero, List.set_cons_succ]
 refine wpAnyH_take (i := 2) (v := ?_) rfl (by kernel_rfl) (by kernel_rfl) (by kernel_rfl) (fun _ _ _ h => h) (Or.inl ⟨by rfl, ?_⟩) HX.out ?_
 rotate_left
 ·intro w' hS; go_simp; with_reducible rfl
 try simp only [Act.put, List.getElem_toArray, List.getElem_cons_zero, List.getElem_cons_succ, List.setIfInBounds_toArray, List.set_cons_zero, List.set_cons_succ]
 refine wpAnyH_take (i := 3) (v := ?_) rfl (by kernel_rfl) (by kernel_rfl) (by kernel_rfl) (fun _ _ _ h => h) (Or.inl ⟨by rfl, ?_⟩) HX.out ?_
 rotate_left
 ·intro w' hS; have h0 := (Blk.cell hS 0).trans H0.out; go_simp; with_reducible rfl
 try simp only [Act.put, List.getElem_toArray, List.getElem_cons_zero, List.getElem_cons_succ, List.setIfInBounds_toArray, List.set_cons_zero, List.set_cons_succ]
 refine all_one (i := 4) (by kernel_rfl) rfl (by rfl) (fun K hK => ?_)
 go_simp
 refine CR.mono ?_
 rintro e w2 ⟨rfl, hb2⟩
 have HX2 := Lib.hid (HX.out.below hb2 HX.out.lt)
 have HB2 := Lib.hid (below_next (below_drewN HB.out 1) hb2)
 clear hb2 CR
 dsimp only
 refine hK _ _ HX2.out ?_; clear hK K
 try simp only [Act.put, List.getElem_toArray, List.getElem_cons_zero, List.getElem_cons_succ, List.setIfInBounds_toArray, List.set_cons_zero, List.set_cons_succ]
 cases r1
 ·skip
  refine wpAnyH_take (i := 5) (v := ?_) rfl (by kernel_rfl) (by kernel_rfl) (by kernel_rfl) (fun _ _ _ h => h) (Or.inl ⟨by rfl, ?_⟩) HX2.out ?_
  rotate_left
  ·intro w' hS; go_simp; with_reducible rfl
  try simp only [Act.put, List.getElem_toArray, List.getElem_cons_zero, List.getElem_cons_succ, List.setIfInBounds_toArray, List.set_cons_zero, List.set_cons_succ]
  refine wpAnyH_take (i := 6) (v := undef) rfl (by kernel_rfl) (by kernel_rfl) (by kernel_rfl) (fun _ _ _ h => h) (Or.inr ⟨by rfl, rfl⟩) HX2.out ?_
  try simp only [Act.put, List.getElem_toArray, List.getElem_cons_zero, List.getElem_cons_succ, List.setIfInBounds_toArray, List.set_cons_zero, List.set_cons_succ]
  refine wpAnyH_take (i := 7) (v := undef) rfl (by kernel_rfl) (by kernel_rfl) (by kernel_rfl) (fun _ _ _ h => h) (Or.inr ⟨by rfl, rfl⟩) HX2.out ?_
  try simp only [Act.put, List.getElem_toArray, List.getElem_cons_zero, List.getElem_cons_succ, List.setIfInBounds_toArray, List.set_cons_zero, List.set_cons_succ]
  refine wpAnyH_take (i := 8) (v := undef) rfl (by kernel_rfl) (by kernel_rfl) (by kernel_rfl) (fun _ _ _ h => h) (Or.inr ⟨by rfl, rfl⟩) HX2.out ?_
  try simp only [Act.put, List.getElem_toArray, List.getElem_cons_zero, List.getElem_cons_succ, List.setIfInBounds_toArray, List.set_cons_zero, List.set_cons_succ]
  refine wpAnyH_take (i := 9) (v := undef) rfl (by kernel_rfl) (by kernel_rfl) (by kernel_rfl) (fun _ _ _ h => h) (Or.inr ⟨by rfl, rfl⟩) HX2.out ?_
  try simp only [Act.put, List.getElem_toArray, List.getElem_cons_zero, List.getElem_cons_succ, List.setIfInBounds_toArray, List.set_cons_zero, List.set_cons_succ]
  refine wpAnyH_take (i := 10) (v := undef) rfl (by kernel_rfl) (by kernel_rfl) (by kernel_rfl) (fun _ _ _ h => h) (Or.inr ⟨by rfl, rfl⟩) HX2.out ?_
  try simp only [Act.put, List.getElem_toArray, List.getElem_cons_zero, List.getElem_cons_succ, List.setIfInBounds_toArray, List.set_cons_zero, List.set_cons_succ]
  refine wpAnyH_take (i := 11) (v := ?_) rfl (by kernel_rfl) (by kernel_rfl) (by kernel_rfl) (fun _ _ _ h => h) (Or.inl ⟨by rfl, ?_⟩) HX2.out ?_
  rotate_left
  ·intro w' hS; go_simp; with_reducible rfl
  try simp only [Act.put, List.getElem_toArray, List.getElem_cons_zero, List.getElem_cons_succ, List.setIfInBounds_toArray, List.set_cons_zero, List.set_cons_succ]
  refine wpAnyH_take (i := 12) (v := ?_) rfl (by kernel_rfl) (by kernel_rfl) (by kernel_rfl) (fun _ _ _ h => h) (Or.inl ⟨by rfl, ?_⟩) HX2.out ?_
  rotate_left
  ·intro w' hS; go_simp; with_reducible rfl
  try simp only [Act.put, List.getElem_toArray, List.getElem_cons_zero, List.getElem_cons_succ, List.setIfInBounds_toArray, List.set_cons_zero, List.set_cons_succ]
  refine wpAnyH_take (i := 13) (v := ?_) rfl (by kernel_rfl) (by kernel_rfl) (by kernel_rfl) (fun _ _ _ h => h) (Or.inl ⟨by rfl, ?_⟩) HX2.out ?_
  rotate_left
  ·intro w' hS; go_simp; with_reducible rfl
  try simp only [Act.put, List.getElem_toArray, List.getElem_cons_zero, List.getElem_cons_succ, List.setIfInBounds_toArray, List.set_cons_zero, List.set_cons_succ]
  refine wpAnyH_done (by kernel_rfl) ?_ _
  go_wp2
  go_ret2
  exact ⟨by rw [HK.out]; rfl, HB2.out⟩
 ·skip
  refine wpAnyH_take (i := 5) (v := ?_) rfl (by kernel_rfl) (by kernel_rfl) (by kernel_rfl) (fun _ _ _ h => h) (Or.inl ⟨by rfl, ?_⟩) HX2.out ?_
  rotate_left
  ·intro w' hS; go_simp; with_reducible rfl
  try simp only [Act.put, List.getElem_toArray, List.getElem_cons_zero, List.getElem_cons_succ, List.setIfInBounds_toArray, List.set_cons_zero, List.set_cons_succ]
  refine wpAnyH_take (i := 6) (v := ?_) rfl (by kernel_rfl) (by kernel_rfl) (by kernel_rfl) (fun _ _ _ h => h) (Or.inl ⟨by rfl, ?_⟩) HX2.out ?_
  rotate_left
  ·intro w' hS; go_simp; with_reducible rfl
  try simp only [Act.put, List.getElem_toArray, List.getElem_cons_zero, List.getElem_cons_succ, List.setIfInBounds_toArray, List.set_cons_zero, List.set_cons_succ]
  refine wpAnyH_take (i := 7) (v := .agg (cellsB u.old).toArray) rfl (by kernel_rfl) (by kernel_rfl) (by kernel_rfl) (fun _ _ _ h => h) (takes_midE 41 (.tmp 10) rfl (by rfl) w.heap.size 1 (by rfl) (cellsB u.old) _ (fun w' hS => up_rng_old HU.out hS) (by first | exact Tryz.underlying41 | kernel_rfl) (by rfl) (by rw [cellsB_len, HU.out.1.1]; kernel_rfl)) HX2.out ?_
  try simp only [Act.put, List.getElem_toArray, List.getElem_cons_zero, List.getElem_cons_succ, List.setIfInBounds_toArray, List.set_cons_zero, List.set_cons_succ]
  refine wpAnyH_take (i := 8) (v := ?_) rfl (by kernel_rfl) (by kernel_rfl) (by kernel_rfl) (fun _ _ _ h => h) (Or.inl ⟨by rfl, ?_⟩) HX2.out ?_
  rotate_left
  ·intro w' hS; go_simp; with_reducible rfl
  try simp only [Act.put, List.getElem_toArray, List.getElem_cons_zero, List.getElem_cons_succ, List.setIfInBounds_toArray, List.set_cons_zero, List.set_cons_succ]
  refine wpAnyH_take (i := 9) (v := .agg (cellsB u.new).toArray) rfl (by kernel_rfl) (by kernel_rfl) (by kernel_rfl) (fun _ _ _ h => h) (takes_midE 41 (.tmp 12) rfl (by rfl) w.heap.size 33 (by rfl) (cellsB u.new) _ (fun w' hS => up_rng_new HU.out hS) (by first | exact Tryz.underlying41 | kernel_rfl) (by rfl) (by rw [cellsB_len, HU.out.2.1]; kernel_rfl)) HX2.out ?_
  try simp only [Act.put, List.getElem_toArray, List.getElem_cons_zero, List.getElem_cons_succ, List.setIfInBounds_toArray, List.set_cons_zero, List.set_cons_succ]
  refine wpAnyH_take (i := 10) (v := .bool (!(eqv u.old u.new))) rfl (by kernel_rfl) (by kernel_rfl) (by kernel_rfl) (fun _ _ _ h => h) (Or.inl ⟨by rfl, fun w' hS => exec_neqE 41 (.tmp 11) (.tmp 13) rfl _ _ (by rfl) (by rfl) (HE.out w')⟩) HX2.out ?_
  try simp only [Act.put, List.getElem_toArray, List.getElem_cons_zero, List.getElem_cons_succ, List.setIfInBounds_toArray, List.set_cons_zero, List.set_cons_succ]
  refine wpAnyH_take (i := 11) (v := ?_) rfl (by kernel_rfl) (by kernel_rfl) (by kernel_rfl) (fun _ _ _ h => h) (Or.inl ⟨by rfl, ?_⟩) HX2.out ?_
  rotate_left
  ·intro w' hS; go_simp; with_reducible rfl
  try simp only [Act.put, List.getElem_toArray, List.getElem_cons_zero, List.getElem_cons_succ, List.setIfInBounds_toArray, List.set_cons_zero, List.set_cons_succ]
  refine wpAnyH_take (i := 12) (v := ?_) rfl (by kernel_rfl) (by kernel_rfl) (by kernel_rfl) (fun _ _ _ h => h) (Or.inl ⟨by rfl, ?_⟩) HX2.out ?_
  rotate_left
  ·intro w' hS; go_simp; with_reducible rfl
  try simp only [Act.put, List.getElem_toArray, List.getElem_cons_zero, List.getElem_cons_succ, List.setIfInBounds_toArray, List.set_cons_zero, List.set_cons_succ]
  refine wpAnyH_take (i := 13) (v := ?_) rfl (by kernel_rfl) (by kernel_rfl) (by kernel_rfl) (fun _ _ _ h => h) (Or.inl ⟨by rfl, ?_⟩) HX2.out ?_
  rotate_left
  ·intro w' hS; go_simp; with_reducible rfl
  try simp only [Act.put, List.getElem_toArray, List.getElem_cons_zero, List.getElem_cons_succ, List.setIfInBounds_toArray, List.set_cons_zero, List.set_cons_succ]
  refine wpAnyH_done (by kernel_rfl) ?_ _
  go_wp2
  go_ret2
  exact ⟨by rw [HK.out]; rfl, HB2.out⟩
structure ESents (w : World) (a : Nat → Addr) : Prop where
 p : PSents w a
 g : w.cell? ⟨13, 0, none⟩ = some (ev (a 12))
 r : w.cell? ⟨2, 0, none⟩ = some (ev (a 0))
theorem ESents.at_ {w0 w : World} {a : Nat → Addr} (h : ESents w0 a) (hb : Below w0.heap.size w0 w) : ESents w a :=
 ⟨h.p.at_ hb, (hb.cell (block_lt_of_cell h.g)).trans h.g, (hb.cell (block_lt_of_cell h.r)).trans h.r⟩
theorem en_obj36 {cs : Array Value} (h : cs.size = 36) : (Tryz.prog.info? 183).map (·.size) = some cs.size := by rw [h]; kernel_rfl
theorem en_size {o : Ob} {m : Nat} {w : World} {cs : Array Value} {T E P : Option Addr} {tc ec pc : Nat} (h : ObO m w o cs T tc E ec P pc) (hf : o.Fit) : cs.size = 36 := by
 rw [h.cells]
 simp [cellsOb, cellsB_len, hf.target.1]
set_option maxRecDepth 100000 in
set_option maxHeartbeats 2000000 in
theorem obj1_core (A : Option Addr) (n c : Nat) (xs : List Nat) (er : Value) (b : Bool) (w : World) (hv : Rd w (.slice A n c) xs) (her : (er = .nilIface ∧ b = true) ∨ ((∃ ad, er = ev ad) ∧ b = false))
  (hP : Calls Tryz.prog 105 #[.slice A n c] w fun e w' => ∃ cs : Array Value, cs.size = 36 ∧ cs.all (·.oneCell') = true ∧ e = .returned (.tuple #[.agg cs, er]) ∧ Below w.heap.size w w') :
  Calls Tryz.prog 104 #[.slice A n c] w fun e w' => e = .returned (.tuple #[.string (textOf xs), .bool b]) ∧ Below w.heap.size w w' := by
 have HV := Lib.hid hv
 clear hv
 go_enter Tryz.func104, Tryz.ntmps104
 go_wp2_with (go_at_call 105; refine pause ?_)
 unfold Paused
 refine hP.mono ?_
 rintro e w5 ⟨cs, h36, h1, rfl, hb5⟩
 have HB5 := Lib.hid hb5
 have H36 := Lib.hid h36
 have H1 := Lib.hid h1
 clear hb5 hP h36 h1
 go_wp2_with (with_reducible (show wpList _ _ _ (Oper.mk _ (Op.store 183 _ _) _ _ _ _ :: _) _ _); refine pause ?_)
 unfold Paused
 change wpList _ _ _ _ _ (w5.alloc (.cells zOc 183))
 refine wpList_store_row (by rfl) 183 (.tmp 4) (.tmp 9) (by rfl) w5.heap.size cs (by rfl) (by rfl) 183 zOc (Blk.new w5 _ _) (en_obj36 H36.out) (by rw [H36.out]; rfl) H1.out ?_
 have b6 : Below w5.heap.size w5 ((w5.alloc (.cells zOc 183)).setRow w5.heap.size cs) := below_row ((Below.refl _ _).alloc (Nat.le_refl _) _) (Nat.le_refl _) _
 have HB6 := Lib.hid (below_next HB5.out b6)
 clear b6
 generalize (w5.alloc (.cells zOc 183)).setRow w5.heap.size cs = w6 at HB6 ⊢
 generalize w5.heap.size = g7
 simp only [Act.put]
 have HV6 := Lib.hid (HV.out.below HB6.out (Nat.le_refl _))
 have q1 : ∀ j, (convert 46 9 (.slice A n c)).run Tryz.prog (w6.drewN j) = .ok (.string (textOf xs)) (w6.drewN j) := fun j => conv_rd (HV6.out.below (below_drewN (Below.refl _ w6) j) (Nat.le_refl _))
 rcases her with ⟨rfl, rfl⟩ | ⟨⟨ad, rfl⟩, rfl⟩
 ·go_wp2_with fail
  go_quiet (fail)
  go_wp2
  go_ret2
  exact ⟨rfl, below_drewN HB6.out _⟩
 ·go_wp2_with fail
  go_quiet (fail)
  go_wp2
  go_ret2
  exact ⟨rfl, below_drewN HB6.out _⟩
theorem obj1_any (A : Option Addr) (n c : Nat) (xs : List Nat) (a : Nat → Addr) (w : World) (hv : Rd w (.slice A n c) xs) (hy : Sha.Byte xs) (hS : ESents w a) :
  Calls Tryz.prog 104 #[.slice A n c] w fun e w' => e = .returned (.tuple #[.string (textOf xs), .bool (En.objOk xs)]) ∧ Below w.heap.size w w' := by
 have hf : ∀ ad, (ev ad = .nilIface ∧ En.objOk xs = true) ∨ ((∃ a, ev ad = ev a) ∧ En.objOk xs = false) ↔ En.objOk xs = false := fun ad => by
  constructor
  ·rintro (⟨h, _⟩ | ⟨_, h⟩)
   ·cases h
   ·exact h
  ·exact fun h => Or.inr ⟨⟨ad, rfl⟩, h⟩
 have hz : zOc.size = 36 ∧ zOc.all (·.oneCell') = true := ⟨by kernel_rfl, by kernel_rfl⟩
 by_cases hl : xs.length ≤ 300
 ·cases hp : Ob.parse xs with
  | bad k =>
   refine obj1_core A n c xs (ev (a (k - 1))) _ w hv ((hf _).2 ?_) ((oparse_bad k xs a _ w hv (Oc.bytes_of hy) hl hS.p hp).mono fun e w' h => ⟨_, hz.1, hz.2, h⟩)
   rw [← Bool.not_eq_true, En.objOk_iff]
   rintro ⟨_, o, ho⟩
   rw [hp] at ho; cases ho
  | ok o =>
   refine obj1_core A n c xs .nilIface _ w hv (Or.inl ⟨rfl, (En.objOk_iff xs).2 ⟨hl, o, hp⟩⟩) ((oparse_ok o xs a _ w hv (Oc.bytes_of hy) hl hS.p hp).mono fun e w' h => ?_)
   obtain ⟨cs, T, tc, E, ec, P, pc, he, hfit, _, ho, hb⟩ := h
   exact ⟨cs, en_size ho hfit, ho.one, he, hb⟩
 ·refine obj1_core A n c xs (ev (a 12)) _ w hv ((hf _).2 ?_) ((oparse_large (a 12) xs _ w hv (by omega) hS.g).mono fun e w' h => ⟨_, hz.1, hz.2, h⟩)
  rw [← Bool.not_eq_true, En.objOk_iff]
  rintro ⟨h, _⟩
  exact hl h
namespace En
noncomputable def seen (keys : List ByteArray) (i : ByteArray) : Option Value := @ite _ (i ∈ keys) (Classical.propDecidable _) (some (.bool true)) none
theorem seen_yes {keys : List ByteArray} {i : ByteArray} (h : i ∈ keys) : seen keys i = some (.bool true) := if_pos h
theorem seen_no {keys : List ByteArray} {i : ByteArray} (h : i ∉ keys) : seen keys i = none := if_neg h
theorem ref_size {s : ByteArray} (h : Nm.ref s.data.toList = true) : s.size ≤ 24 := by
 unfold Nm.ref at h
 simp only [Bool.and_eq_true, decide_eq_true_iff] at h
 have := h.1.1
 simpa using this
theorem upKey_size {u : Up} (h : (upKey u).2 = true) : (upKey u).1.size ≤ maxLen := by
 unfold upKey at h ⊢
 simp only [Bool.and_eq_true] at h
 have := ref_size h.1
 unfold maxLen
 show u.ref.size ≤ _
 omega
theorem obKey_size {x : List Nat} (h : (obKey x).2 = true) : (obKey x).1.size ≤ maxLen := by
 have h1 := ((objOk_iff x).1 h).1
 unfold maxLen
 show (textOf x).size ≤ _
 rw [textOf_size]
 omega
end En
structure OnW (w wr : World) (l : List (ByteArray × Bool)) (k : Nat) : Prop where
 map : MapS wr w.heap.size k (En.seen ((l.take k).map (·.1)))
 ok : En.once (l.take k) = true
 bel : Below w.heap.size w wr
theorem MapS.ext {w : World} {b n : Nat} {f g : ByteArray → Option Value} (h : MapS w b n f) (e : ∀ i, f i = g i) : MapS w b n g := by rwa [show f = g from funext e] at h
theorem OnW.new (w : World) (l : List (ByteArray × Bool)) : OnW w (w.alloc (.map #[] 0)) l 0 :=
 ⟨(MapS.made w).ext fun i => by rw [List.take_zero]; exact (En.seen_no (by simp)).symm, by rw [List.take_zero]; exact En.once_nil, (Below.refl _ _).alloc (Nat.le_refl _) _⟩
theorem OnW.below {w wr w' : World} {l : List (ByteArray × Bool)} {k : Nat} (h : OnW w wr l k) (hb : Below wr.heap.size wr w') : OnW w w' l k := ⟨h.map.below hb, h.ok, below_next h.bel hb⟩
theorem OnW.put {w wr w' : World} {l : List (ByteArray × Bool)} {k : Nat} {p : ByteArray × Bool} (h : OnW w wr l k) (hk : k < l.length) (hp : l[k] = p) (h1 : p.2 = true) (h2 : p.1 ∉ (l.take k).map (·.1)) (hm : MapS w' w.heap.size (k + 1) (updS (En.seen ((l.take k).map (·.1))) p.1 (some (.bool true)))) (hg : wr.grownBy w' (some w.heap.size)) : OnW w w' l (k + 1) := by
 subst hp
 refine ⟨hm.ext fun i => ?_, ?_, below_of_only h.bel hg (Nat.le_refl _)⟩
 ·unfold updS
  rw [List.take_succ_eq_append_getElem hk, List.map_append]
  by_cases hi : i = l[k].1
  ·rw [if_pos hi, En.seen_yes (by simp [hi])]
  ·rw [if_neg hi]
   by_cases hs : i ∈ (l.take k).map (·.1)
   ·rw [En.seen_yes hs, En.seen_yes (List.mem_append_left _ hs)]
   ·rw [En.seen_no hs, En.seen_no (fun hm => by
     rcases List.mem_append.1 hm with hm | hm
     ·exact hs hm
     ·simp at hm; exact hi hm)]
 ·rw [List.take_succ_eq_append_getElem hk]
  exact En.once_snoc h.ok h1 h2
theorem once_make (w : World) : (Instr.makeMap 209 none).run Tryz.prog w = .ok (.map (some w.heap.size)) (w.alloc (.map #[] 0)) := by kernel_rfl
theorem once_zero (w : World) : (zeroValue 4).run Tryz.prog w = .ok (.bool false) w := by kernel_rfl
theorem eg_upd (args : Array Value) (w : World) : (callFunc 101 args).run Tryz.prog w = .ok (.enter 101 args) w := by kernel_rfl
theorem eg_ob (args : Array Value) (w : World) : (callFunc 104 args).run Tryz.prog w = .ok (.enter 104 args) w := by kernel_rfl
def zU : Array Value := (cellsU1 ⟨⟨#[]⟩, zid, zid⟩).toArray
theorem zU_size : zU.size = 65 := by kernel_rfl
theorem cellsU1_one (u : En.Up) : (cellsU1 u).toArray.all (·.oneCell') = true := by
 simp [cellsU1, cellsB, Value.oneCell']
theorem upd_load {u : En.Up} (h : u.Fit) : (Tryz.prog.info? 89).map (·.size) = some (cellsU1 u).length := by rw [cellsU1_len h]; kernel_rfl
theorem upd_load2 {u : En.Up} (h : u.Fit) : (Tryz.prog.info? 89).map (·.size) = some (cellsU1 u).toArray.size := by rw [List.size_toArray]; exact upd_load h
set_option maxRecDepth 100000 in
set_option maxHeartbeats 4000000 in
theorem onceU_any (us : List En.Up) (A : Option Addr) (n c : Nat) (w : World) (hx : RdK w (.slice A n c) n (cellsU us)) (hl : n = us.length) (hf : ∀ u ∈ us, u.Fit) (hm : MaxAt w) (hn : n ≤ 1000) :
  Calls Tryz.prog 100 #[.slice A n c, .func (.func 101) #[] #[]] w fun e w' => e = .returned (.bool (En.once (us.map En.upKey))) ∧ Below w.heap.size w w' := by
 have HX := Lib.hid hx
 have HFT := Lib.hid hf
 have HM := Lib.hid hm
 have HL := Lib.hid hl
 have HN := Lib.hid hn
 have mk := once_make w
 have eg := eg_upd
 obtain ⟨ks, hks⟩ : ∃ ks, ks = us.map En.upKey := ⟨_, rfl⟩
 rw [← hks]
 have HKS := Lib.hid hks
 have HW0 := Lib.hid (OnW.new w ks)
 have HLK : Hid (n = ks.length) := Lib.hid (by rw [hks, List.length_map]; exact hl)
 clear hx hl hf hm hn hks
 go_enter Tryz.func100, Tryz.ntmps100
 go_wp2
 generalize w.alloc (.map #[] 0) = w1 at HW0 ⊢
 clear mk
 go_loopw [13] (fun i wr => ∃ k : Nat, k ≤ n ∧ i = .int .i64 k ∧ Hid (OnW w wr ks k)) (fun i _ => n - (intOf i).toNat)
 case atStart => exact ⟨0, Nat.zero_le _, rfl, HW0⟩
 case round =>
  obtain ⟨k, hk, rfl, HW⟩ := hrel
  by_cases hlt : k < n
  ·have hki : k < ks.length := by rw [← HLK.out]; exact hlt
   have hkl : k < us.length := by rw [← HL.out]; exact hlt
   have HKI := Lib.hid hki
   have i1 : ((k : Nat) : Int) < n := by omega
   have i2 : (0 : Int) ≤ ((k : Nat) : Int) := by omega
   have i3 : ((k : Nat) : Int) < 1000 := by have := HN.out; omega
   have hxx := HX.out
   rw [HL.out] at hxx
   obtain ⟨b, o, rfl, hbl, hrg⟩ := hxx.up rfl HFT.out hkl
   have hke : ks[k]'(HKI.out) = En.upKey us[k] := (List.getElem_of_eq HKS.out HKI.out).trans (by simp)
   have hft := HFT.out _ (List.getElem_mem hkl)
   generalize us[k] = u at hrg hke hft
   have HFU := Lib.hid hft
   have HKE := Lib.hid hke
   have HRG : Hid (wr.rangeAt b (o + k * 65) (cellsU1 u)) := Lib.hid (fun j v hj => (HW.out.bel.cell (p := ⟨b, o + k * 65 + j, none⟩) hbl).trans (hrg j v hj))
   clear hki hkl hxx hbl hrg hke hft hk hlt
   go_wp2_with (with_reducible (show wpList _ _ _ (Oper.mk _ (Op.load 89 _) _ _ _ _ :: _) _ _); refine pause ?_)
   unfold Paused
   refine wpList_mid_w (by rfl) 89 (.tmp 15) (by rfl) b (o + k * 65) (by rfl) (cellsU1 u) _ HRG.out Tryz.underlying89 (by rfl) (upd_load HFU.out) ?_
   go_wp2_with (with_reducible (show wpList _ _ _ (Oper.mk _ (Op.store 89 _ _) _ _ _ _ :: _) _ _); refine pause ?_)
   unfold Paused
   change wpList _ _ _ _ _ (wr.alloc (.cells zU 89))
   refine wpList_store_row (by rfl) 89 (.tmp 7) (.tmp 16) (by rfl) wr.heap.size (cellsU1 u).toArray (by rfl) (by rfl) 89 zU (Blk.new wr _ _) (upd_load2 HFU.out) (by rw [zU_size, List.size_toArray, cellsU1_len HFU.out]) (cellsU1_one u) ?_
   have b6 : Below wr.heap.size wr ((wr.alloc (.cells zU 89)).setRow wr.heap.size (cellsU1 u).toArray) := below_row ((Below.refl _ _).alloc (Nat.le_refl _) _) (Nat.le_refl _) _
   have HW6 := Lib.hid (HW.out.below b6)
   have HI6 : Hid (Blk ((wr.alloc (.cells zU 89)).setRow wr.heap.size (cellsU1 u).toArray) wr.heap.size 89 (cellsU1 u).toArray) := Lib.hid ((Blk.new wr _ _).row _)
   clear b6 HRG
   generalize (wr.alloc (.cells zU 89)).setRow wr.heap.size (cellsU1 u).toArray = w6 at HW6 HI6 ⊢
   generalize wr.heap.size = g6 at HI6 ⊢
   simp only [Act.put]
   go_wp2_with (with_reducible (show wpList _ _ _ (Oper.mk _ (Op.load 89 _) _ _ _ _ :: _) _ _); refine pause ?_)
   unfold Paused
   refine wpList_row_w (by rfl) 89 (.tmp 7) (by rfl) g6 (by rfl) 89 (cellsU1 u).toArray _ HI6.out Tryz.underlying89 (by rfl) (upd_load2 HFU.out) ?_
   have CC := upd1_any u HFU.out w6 (HM.out.below HW6.out.bel (Nat.le_refl _))
   have HSZ := Lib.hid (En.upKey_size (u := u))
   rw [show u.ref = (En.upKey u).1 from rfl] at CC
   go_wp2_with (go_at_call 101; refine pause ?_)
   unfold Paused
   refine CC.mono ?_
   rintro e w7 ⟨rfl, hb7⟩
   have HW7 := Lib.hid (HW6.out.below hb7)
   clear hb7 CC
   generalize En.upKey u = p at HKE HSZ ⊢
   obtain ⟨tx, rt⟩ := p
   dsimp only at HSZ ⊢
   cases rt
   ·have HF : Hid (En.once ks = false) := Lib.hid (En.once_bad HKI.out (by rw [HKE.out]))
    clear HSZ
    go_wp2
    go_ret
    exact ⟨by rw [HF.out]; rfl, HW7.out.bel⟩
   have hsz := HSZ.out rfl
   have q7 := HW7.out.map.look (t := 209) (e := 4) Tryz.underlying209 (once_zero w7) hsz
   rcases Classical.em (tx ∈ (ks.take k).map (·.1)) with hs | hs
   ·rw [En.seen_yes hs] at q7
    have HF : Hid (En.once ks = false) := Lib.hid (En.once_twice HKI.out (by rw [HKE.out]; exact hs))
    simp only [Option.getD_some] at q7
    clear HSZ hs hsz
    go_wp2
    go_ret
    exact ⟨by rw [HF.out]; rfl, HW7.out.bel⟩
   ·rw [En.seen_no hs] at q7
    simp only [Option.getD_none] at q7
    obtain ⟨w8, hrun, hm8, hg8⟩ := HW7.out.map.store (t := 209) (e := 4) Tryz.underlying209 (by have := HN.out; unfold maxLen; omega) hsz (.bool true)
    have HW8 : Hid (OnW w w8 ks (k + 1)) := Lib.hid (HW7.out.put HKI.out HKE.out rfl hs hm8 hg8)
    have HLT : Hid (k + 1 ≤ n) := Lib.hid (by rw [HLK.out]; exact HKI.out)
    clear HSZ hs hsz hm8 hg8
    go_wp2
    go_roundw
    case rel => exact ⟨k + 1, HLT.out, by go_num, HW8⟩
    case measure => have h5 := HLT.out; simp [intOf]; omega
  ·obtain rfl : k = n := by omega
   have HF : Hid (En.once ks = true) := Lib.hid (by have h := HW.out.ok; rwa [HLK.out, List.take_length] at h)
   have ik : ¬ ((k : Nat) : Int) < k := by omega
   clear hk hlt
   go_wp2
   go_ret
   exact ⟨by rw [HF.out]; rfl, HW.out.bel⟩
set_option maxRecDepth 100000 in
set_option maxHeartbeats 4000000 in
theorem onceT_any (ts : List En.Bt) (A : Option Addr) (n c : Nat) (a : Nat → Addr) (w : World) (hx : BtT w A n ts) (hS : ESents w a) (hn : n ≤ 1000) :
  Calls Tryz.prog 103 #[.slice A n c, .func (.func 104) #[] #[]] w fun e w' => e = .returned (.bool (En.once ((ts.map (·.text)).map En.obKey))) ∧ Below w.heap.size w w' := by
 have hl := hx.len
 have HX := Lib.hid hx
 have HS := Lib.hid hS
 have HL := Lib.hid hl
 have HN := Lib.hid hn
 have mk := once_make w
 have eg := eg_ob
 obtain ⟨ks, hks⟩ : ∃ ks, ks = (ts.map (·.text)).map En.obKey := ⟨_, rfl⟩
 rw [← hks]
 have HKS := Lib.hid hks
 have HW0 := Lib.hid (OnW.new w ks)
 have HLK : Hid (n = ks.length) := Lib.hid (by rw [hks, List.length_map, List.length_map]; exact hl)
 clear hx hl hS hn hks
 go_enter Tryz.func103, Tryz.ntmps103
 go_wp2
 generalize w.alloc (.map #[] 0) = w1 at HW0 ⊢
 clear mk
 go_loopw [13] (fun i wr => ∃ k : Nat, k ≤ n ∧ i = .int .i64 k ∧ Hid (OnW w wr ks k)) (fun i _ => n - (intOf i).toNat)
 case atStart => exact ⟨0, Nat.zero_le _, rfl, HW0⟩
 case round =>
  obtain ⟨k, hk, rfl, HW⟩ := hrel
  by_cases hlt : k < n
  ·have hki : k < ks.length := by rw [← HLK.out]; exact hlt
   have hkl : k < ts.length := by rw [← HL.out]; exact hlt
   have HKI := Lib.hid hki
   have i1 : ((k : Nat) : Int) < n := by omega
   have i2 : (0 : Int) ≤ ((k : Nat) : Int) := by omega
   have i3 : ((k : Nat) : Int) < 1000 := by have := HN.out; omega
   obtain ⟨b, o, rfl, hbl, hcell⟩ := HX.out.row (by omega)
   have pc := (HW.out.bel.cell (p := ⟨b, o + k, none⟩) hbl).trans (hcell k _ (List.getElem?_eq_getElem hkl))
   obtain ⟨hrd, hby⟩ := HX.out.rd _ (List.getElem_mem hkl)
   have hke : ks[k]'(HKI.out) = En.obKey ts[k].text := (List.getElem_of_eq HKS.out HKI.out).trans (by simp)
   generalize ts[k] = t at pc hrd hby hke
   obtain ⟨A1, c1, hval⟩ : ∃ A1 c1, t.val = .slice A1 t.text.length c1 := by obtain ⟨A1, c1, h, _⟩ := hrd; exact ⟨A1, c1, h⟩
   rw [hval] at pc hrd
   have CC := obj1_any A1 t.text.length c1 t.text _ wr (hrd.below HW.out.bel (Nat.le_refl _)) hby (HS.out.at_ HW.out.bel)
   have HKE := Lib.hid hke
   have HSZ := Lib.hid (En.obKey_size (x := t.text))
   rw [show textOf t.text = (En.obKey t.text).1 from rfl, show En.objOk t.text = (En.obKey t.text).2 from rfl] at CC
   obtain ⟨n1, hn1⟩ : ∃ n, n = t.text.length := ⟨_, rfl⟩
   rw [← hn1] at pc CC
   have HW6 := HW
   clear hki hkl hbl hcell hrd hby hke hval hn1 hk hlt
   go_wp2_with (go_at_call 104; refine pause ?_)
   unfold Paused
   refine CC.mono ?_
   rintro e w7 ⟨rfl, hb7⟩
   have HW7 := Lib.hid (HW6.out.below hb7)
   clear hb7 CC
   generalize En.obKey t.text = p at HKE HSZ ⊢
   obtain ⟨tx, rt⟩ := p
   dsimp only at HSZ ⊢
   cases rt
   ·have HF : Hid (En.once ks = false) := Lib.hid (En.once_bad HKI.out (by rw [HKE.out]))
    clear HSZ
    go_wp2
    go_ret
    exact ⟨by rw [HF.out]; rfl, HW7.out.bel⟩
   have hsz := HSZ.out rfl
   have q7 := HW7.out.map.look (t := 209) (e := 4) Tryz.underlying209 (once_zero w7) hsz
   rcases Classical.em (tx ∈ (ks.take k).map (·.1)) with hs | hs
   ·rw [En.seen_yes hs] at q7
    have HF : Hid (En.once ks = false) := Lib.hid (En.once_twice HKI.out (by rw [HKE.out]; exact hs))
    simp only [Option.getD_some] at q7
    clear HSZ hs hsz
    go_wp2
    go_ret
    exact ⟨by rw [HF.out]; rfl, HW7.out.bel⟩
   ·rw [En.seen_no hs] at q7
    simp only [Option.getD_none] at q7
    obtain ⟨w8, hrun, hm8, hg8⟩ := HW7.out.map.store (t := 209) (e := 4) Tryz.underlying209 (by have := HN.out; unfold maxLen; omega) hsz (.bool true)
    have HW8 : Hid (OnW w w8 ks (k + 1)) := Lib.hid (HW7.out.put HKI.out HKE.out rfl hs hm8 hg8)
    have HLT : Hid (k + 1 ≤ n) := Lib.hid (by rw [HLK.out]; exact HKI.out)
    clear HSZ hs hsz hm8 hg8
    go_wp2
    go_roundw
    case rel => exact ⟨k + 1, HLT.out, by go_num, HW8⟩
    case measure => have h5 := HLT.out; simp [intOf]; omega
  ·obtain rfl : k = n := by omega
   have HF : Hid (En.once ks = true) := Lib.hid (by have h := HW.out.ok; rwa [HLK.out, List.take_length] at h)
   have ik : ¬ ((k : Nat) : Int) < k := by omega
   clear hk hlt
   go_wp2
   go_ret
   exact ⟨by rw [HF.out]; rfl, HW.out.bel⟩
end Go.Proofs.YtgcgomdhdgjpdaaGreatDoor
