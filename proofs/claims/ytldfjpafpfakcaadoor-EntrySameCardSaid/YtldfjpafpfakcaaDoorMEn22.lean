/- The law EntrySame. -/
import Derived.Test.YtldfjpafpfakcaaDoorMEn20s
namespace Go.Proofs.YtldfjpafpfakcaaDoor
open Go Go.RowKit
theorem rnt_load {cs : Array Value} (h : cs.size = 5) : (Tryd.prog.info? 29).map (·.size) = some cs.size := rent5_load h
theorem ecs1 (e : En.E) (U O : Option Addr) (cu co n : Nat) : (ecs e (.slice U n cu) O co).all (·.oneCell') = true := by simp [ecs, Value.oneCell']
theorem exec_eqlE {P : Program} {o : Oper} {a : Act} {w : World} (t : TypeId) (x y : Operand) {z : TypeId} (ho : o.op = .binOp .eql t x y z) (xs ys : Array Value) (hx : a.eval x = .agg xs) (hy : a.eval y = .agg ys) {r : Bool}
    (h : (Op.equalIn 10000 t (.agg xs) (.agg ys)).run P w = .ok r w) (hm : P.eqGuardType P.depth t = false := by kernel_rfl) : (execOp a.eval o).run P w = .ok (.value (.bool r)) w := by
  unfold execOp
  simp only [ho, hx, hy, Sem.run_bind, run_eqGuard_agg w .eql t x y xs ys hm, run_eql_struct, h, Result.andThen_ok]
  rfl
theorem exec_buildE {P : Program} {o : Oper} {a : Act} {w : World} (t : TypeId) (parts : Array (Nat × Operand)) (ho : o.op = .build t parts) (vals : List (Nat × Value)) (hv : (parts.map fun (i, x) => (i, a.eval x)).toList = vals) (cells : Array Value) (h : P.built t vals = some cells) : (execOp a.eval o).run P w = .ok (.value (.agg cells)) w := by
  unfold execOp
  simp only [ho, Sem.run_bind, run_build w t _ cells (by rw [hv]; exact h), Result.andThen_ok]
  rfl
theorem upd_places : (Tryd.prog.fieldsOf 38).toList.mapM (fun f => (Tryd.prog.info? f.type).map fun i => (f.offset, i.size)) = some [(0, 1), (1, 32), (33, 32)] := by kernel_rfl
theorem upd_zero : ((Tryd.prog.info? 38).bind (·.zero)).map (·.cells) = some (cellsU1 ⟨⟨#[]⟩, List.replicate 32 0, List.replicate 32 0⟩).toArray := by kernel_rfl
theorem upd_under : Tryd.prog.underlying 38 = some (.struct (Tryd.prog.fieldsOf 38)) := by kernel_rfl
theorem upd_built (u : En.Up) (h : u.Fit) : Tryd.prog.built 38 [(0, .string u.ref), (1, .agg (cellsB u.old).toArray), (2, .agg (cellsB u.new).toArray)] = some (cellsU1 u).toArray := by
  rw [built_of upd_under upd_zero upd_places]
  exact rup_fill u h
theorem rng_old {w : World} {b o : Nat} {u : En.Up} (hf : u.Fit) (h : w.rangeAt b o (cellsU1 u)) : w.rangeAt b (o + 1) (cellsB u.old) := fun j v hj => by
  have hl : j < 32 := by have := (List.getElem?_eq_some_iff.1 hj).1; rwa [cellsB_len, hf.1.1] at this
  rw [Nat.add_assoc]
  refine h (1 + j) v ?_
  rw [cellsU1, Nat.add_comm 1 j, List.getElem?_cons_succ, List.getElem?_append_left (by rw [cellsB_len, hf.1.1]; exact hl)]
  exact hj
theorem rng_new {w : World} {b o : Nat} {u : En.Up} (hf : u.Fit) (h : w.rangeAt b o (cellsU1 u)) : w.rangeAt b (o + 33) (cellsB u.new) := fun j v hj => by
  have hl : j < 32 := by have := (List.getElem?_eq_some_iff.1 hj).1; rwa [cellsB_len, hf.2.1] at this
  rw [Nat.add_assoc]
  refine h (33 + j) v ?_
  rw [cellsU1, show 33 + j = (32 + j) + 1 by omega, List.getElem?_cons_succ, List.getElem?_append_right (by rw [cellsB_len, hf.1.1]; omega), cellsB_len, hf.1.1, show 32 + j - 32 = j by omega]
  exact hj
theorem rng_below {w w' : World} {b o : Nat} {cs : List Value} (h : w.rangeAt b o cs) (hl : b < w.heap.size) (hb : Below w.heap.size w w') : w'.rangeAt b o cs := fun j v hj => (hb.cell (p := ⟨b, o + j, none⟩) hl).trans (h j v hj)
/-- a row stored in a box of its own -/
theorem boxed_in {w : World} {T : TypeId} {zs cs : Array Value} : Below w.heap.size w ((w.alloc (.cells zs T)).setRow w.heap.size cs) ∧ Blk ((w.alloc (.cells zs T)).setRow w.heap.size cs) w.heap.size T cs :=
  ⟨below_row ((Below.refl _ _).alloc (Nat.le_refl _) _) (Nat.le_refl _) _, (Blk.new w _ _).row _⟩
theorem Blk.up {w w' : World} {g T : Nat} {cs : Array Value} (h : Blk w g T cs) (hb : Below w.heap.size w w') : Blk w' g T cs := h.below hb h.lt
theorem eqv_refl {α : Type} (a : α) : eqv a a = true := eqv_true rfl
/-- what stands before the copy is written over -/
structure LwS (w wr : World) (a b : En.E) (ca cb cx cy : Array Value) (U1 O1 U2 O2 Ux Uy : Option Addr) (cu1 co1 cu2 co2 cux cuy : Nat) (ts us : List En.Bt) (gx gy : Nat) : Prop where
  bel : Below w.heap.size w wr
  ba : Blk wr w.heap.size 25 ca
  bb : Blk wr (w.heap.size + 1) 25 cb
  bx : Blk wr gx 29 cx
  bY : Blk wr gy 29 cy
  ea : EnC wr a ca U1 cu1 O1 co1 ts
  eb : EnC wr b cb U2 cu2 O2 co2 us
  ex : EnC wr a cx Ux cux O1 co1 ts
  ey : EnC wr b cy Uy cuy O2 co2 us
theorem LwS.up {w wr w' : World} {a b : En.E} {ca cb cx cy : Array Value} {U1 O1 U2 O2 Ux Uy : Option Addr} {cu1 co1 cu2 co2 cux cuy : Nat} {ts us : List En.Bt} {gx gy : Nat} (h : LwS w wr a b ca cb cx cy U1 O1 U2 O2 Ux Uy cu1 co1 cu2 co2 cux cuy ts us gx gy) (hb : Below wr.heap.size wr w') : LwS w w' a b ca cb cx cy U1 O1 U2 O2 Ux Uy cu1 co1 cu2 co2 cux cuy ts us gx gy :=
  ⟨below_next h.bel hb, h.ba.up hb, h.bb.up hb, h.bx.up hb, h.bY.up hb, h.ea.below hb, h.eb.below hb, h.ex.below hb, h.ey.below hb⟩
set_option maxRecDepth 100000 in
set_option maxHeartbeats 16000000 in
theorem esame_law (a b : En.E) (ca cb : Array Value) (U1 O1 U2 O2 : Option Addr) (cu1 co1 cu2 co2 : Nat) (ts us : List En.Bt) (s : Nat → Addr) (w : World) (ha : EnC w a ca U1 cu1 O1 co1 ts) (hb : EnC w b cb U2 cu2 O2 co2 us) (hS : ESents w s) (hm : MaxAt w) :
    Calls Tryd.prog 3 #[.agg ca, .agg cb] w fun r w' => r = .returned (.bool true) ∧ Below w.heap.size w w' := by
  obtain ⟨w2, hw2⟩ : ∃ w2, w2 = (w.alloc (.cells ca 25)).alloc (.cells cb 25) := ⟨_, rfl⟩
  have b2 : Below w.heap.size w w2 := hw2 ▸ boxed ca cb _
  have B1 : Blk w2 w.heap.size 25 ca := hw2 ▸ (Blk.new w _ _).alloc _
  have B2 : Blk w2 (w.heap.size + 1) 25 cb := hw2 ▸ boxed2 ca cb _
  have CA := ealive_any s w2 (hS.at_ b2) (hm.below b2 (Nat.le_refl _))
  have HA := Lib.hid (ha.below b2)
  have HBe := Lib.hid (hb.below b2)
  have HB2 := Lib.hid b2
  have HBA := Lib.hid B1
  have HBB := Lib.hid B2
  have e1 := hw2.symm
  clear ha hb hS hm b2 B1 B2 hw2
  go_enter Tryd.func3, Tryd.ntmps3
  go_wp2_with (go_at_call 5; refine pause ?_)
  unfold Paused
  refine CA.mono ?_
  rintro r w3 ⟨rfl, hb3⟩
  have HB3 := Lib.hid (below_next HB2.out hb3)
  have HA3 := Lib.hid (HA.out.below hb3)
  have HE3 := Lib.hid (HBe.out.below hb3)
  have HBA3 := Lib.hid (HBA.out.up hb3)
  have HBB3 := Lib.hid (HBB.out.up hb3)
  clear hb3 CA HA HBe HB2 HBA HBB e1
  clear w2
  go_wp2_with (with_reducible (show wpList _ _ _ (Oper.mk _ (Op.load 25 _) _ _ _ _ :: _) _ _); refine pause ?_)
  unfold Paused
  refine wpList_row_w (by rfl) 25 (.tmp 2) (by rfl) w.heap.size (by rfl) 25 ca _ HBA3.out (by first | exact Tryd.underlying25 | kernel_rfl) (by rfl) (ent_load HA3.out.size) ?_
  go_wp2_with (go_at_call 6; refine pause ?_)
  unfold Paused
  refine (eof_any a ca U1 O1 cu1 co1 ts w3 HA3.out).mono ?_
  rintro r w4 ⟨hb4, hok4, hno4⟩
  have HB4 := Lib.hid (below_next HB3.out hb4)
  have HA4 := Lib.hid (HA3.out.below hb4)
  have HE4 := Lib.hid (HE3.out.below hb4)
  have HBA4 := Lib.hid (HBA3.out.up hb4)
  have HBB4 := Lib.hid (HBB3.out.up hb4)
  have hk4 : ∃ cx ok, r = .returned (.tuple #[.agg cx, .bool ok]) ∧ cx.size = 5 ∧ cx.all (·.oneCell') = true ∧ ok = En.few a ∧ (ok = true → ∃ Ux cux, cx = ecs a (.slice Ux a.ups.length cux) O1 co1 ∧ EnC w4 a cx Ux cux O1 co1 ts) := by
    cases hf : En.few a with
    | true =>
      obtain ⟨Ux, cux, hr, hx⟩ := hok4 hf
      exact ⟨_, true, hr, rfl, ecs1 _ _ _ _ _ _, rfl, fun _ => ⟨Ux, cux, rfl, hx⟩⟩
    | false =>
      obtain ⟨cs, hr, h5, h1⟩ := hno4 hf
      exact ⟨cs, false, hr, h5, h1, rfl, fun h => by cases h⟩
  obtain ⟨cx, okx, rfl, h5x, h1x, hokx, hex⟩ := hk4
  have H5X := Lib.hid h5x
  have H1X := Lib.hid h1x
  have HOKX := Lib.hid hokx
  have HEX := Lib.hid hex
  clear hb4 hok4 hno4 h5x h1x hokx hex HB3 HA3 HE3 HBA3 HBB3
  clear w3
  go_wp2_with (with_reducible (show wpList _ _ _ (Oper.mk _ (Op.store 29 _ _) _ _ _ _ :: _) _ _); refine pause ?_)
  unfold Paused
  change wpList _ _ _ _ _ (w4.alloc (.cells zR 29))
  refine wpList_store_row (by rfl) 29 (.tmp 5) (.tmp 20) (by rfl) w4.heap.size cx (by rfl) (by rfl) 29 zR (Blk.new w4 _ _) (rnt_load H5X.out) (by rw [H5X.out]; rfl) H1X.out ?_
  have HN5 := Lib.hid (boxed_in (w := w4) (T := 29) (zs := zR) (cs := cx))
  generalize (w4.alloc (.cells zR 29)).setRow w4.heap.size cx = w5 at HN5 ⊢
  have HB5 := Lib.hid (below_next HB4.out HN5.out.1)
  have HA5 := Lib.hid (HA4.out.below HN5.out.1)
  have HE5 := Lib.hid (HE4.out.below HN5.out.1)
  have HBA5 := Lib.hid (HBA4.out.up HN5.out.1)
  have HBB5 := Lib.hid (HBB4.out.up HN5.out.1)
  have HBX5 := Lib.hid HN5.out.2
  have HEX5 : Hid (okx = true → ∃ Ux cux, cx = ecs a (.slice Ux a.ups.length cux) O1 co1 ∧ EnC w5 a cx Ux cux O1 co1 ts) := Lib.hid (fun h => by
    obtain ⟨Ux, cux, h1, h2⟩ := HEX.out h
    exact ⟨Ux, cux, h1, h2.below HN5.out.1⟩)
  clear HB4 HA4 HE4 HBA4 HBB4 HEX HN5
  generalize w4.heap.size = gx at HBX5 ⊢
  clear w4
  simp only [Act.put]
  go_wp2_with (with_reducible (show wpList _ _ _ (Oper.mk _ (Op.load 25 _) _ _ _ _ :: _) _ _); refine pause ?_)
  unfold Paused
  refine wpList_row_w (by rfl) 25 (.tmp 3) (by rfl) (w.heap.size + 1) (by rfl) 25 cb _ HBB5.out (by first | exact Tryd.underlying25 | kernel_rfl) (by rfl) (ent_load HE5.out.size) ?_
  go_wp2_with (go_at_call 6; refine pause ?_)
  unfold Paused
  refine (eof_any b cb U2 O2 cu2 co2 us w5 HE5.out).mono ?_
  rintro r w6 ⟨hb6, hok6, hno6⟩
  have HB6 := Lib.hid (below_next HB5.out hb6)
  have HA6 := Lib.hid (HA5.out.below hb6)
  have HE6 := Lib.hid (HE5.out.below hb6)
  have HBA6 := Lib.hid (HBA5.out.up hb6)
  have HBB6 := Lib.hid (HBB5.out.up hb6)
  have HBX6 := Lib.hid (HBX5.out.up hb6)
  have HEX6 : Hid (okx = true → ∃ Ux cux, cx = ecs a (.slice Ux a.ups.length cux) O1 co1 ∧ EnC w6 a cx Ux cux O1 co1 ts) := Lib.hid (fun h => by
    obtain ⟨Ux, cux, h1, h2⟩ := HEX5.out h
    exact ⟨Ux, cux, h1, h2.below hb6⟩)
  have hk6 : ∃ cy ok, r = .returned (.tuple #[.agg cy, .bool ok]) ∧ cy.size = 5 ∧ cy.all (·.oneCell') = true ∧ ok = En.few b ∧ (ok = true → ∃ Uy cuy, cy = ecs b (.slice Uy b.ups.length cuy) O2 co2 ∧ EnC w6 b cy Uy cuy O2 co2 us) := by
    cases hf : En.few b with
    | true =>
      obtain ⟨Ux, cux, hr, hx⟩ := hok6 hf
      exact ⟨_, true, hr, rfl, ecs1 _ _ _ _ _ _, rfl, fun _ => ⟨Ux, cux, rfl, hx⟩⟩
    | false =>
      obtain ⟨cs, hr, h5, h1⟩ := hno6 hf
      exact ⟨cs, false, hr, h5, h1, rfl, fun h => by cases h⟩
  obtain ⟨cy, oky, rfl, h5y, h1y, hoky, hey⟩ := hk6
  have H5Y := Lib.hid h5y
  have H1Y := Lib.hid h1y
  have HOKY := Lib.hid hoky
  have HEY := Lib.hid hey
  clear hb6 hok6 hno6 h5y h1y hoky hey HB5 HA5 HE5 HBA5 HBB5 HBX5 HEX5
  clear w5
  go_wp2_with (with_reducible (show wpList _ _ _ (Oper.mk _ (Op.store 29 _ _) _ _ _ _ :: _) _ _); refine pause ?_)
  unfold Paused
  change wpList _ _ _ _ _ (w6.alloc (.cells zR 29))
  refine wpList_store_row (by rfl) 29 (.tmp 7) (.tmp 25) (by rfl) w6.heap.size cy (by rfl) (by rfl) 29 zR (Blk.new w6 _ _) (rnt_load H5Y.out) (by rw [H5Y.out]; rfl) H1Y.out ?_
  have HN7 := Lib.hid (boxed_in (w := w6) (T := 29) (zs := zR) (cs := cy))
  generalize (w6.alloc (.cells zR 29)).setRow w6.heap.size cy = w7 at HN7 ⊢
  have HB7 := Lib.hid (below_next HB6.out HN7.out.1)
  cases okx
  · clear HN7 HB6 HA6 HE6 HBA6 HBB6 HBX6 HEX6 HEY
    simp only [Act.put]
    go_wp2
    go_ret
    exact ⟨rfl, HB7.out⟩
  cases oky
  · clear HN7 HB6 HA6 HE6 HBA6 HBB6 HBX6 HEX6 HEY
    simp only [Act.put]
    go_wp2
    go_ret
    exact ⟨rfl, HB7.out⟩
  obtain ⟨Ux, cux, hcx, hx6⟩ := HEX6.out rfl
  obtain ⟨Uy, cuy, hcy, hy6⟩ := HEY.out rfl
  have HL : Hid (LwS w w7 a b ca cb cx cy U1 O1 U2 O2 Ux Uy cu1 co1 cu2 co2 cux cuy ts us gx w6.heap.size) := Lib.hid ⟨HB7.out, HBA6.out.up HN7.out.1, HBB6.out.up HN7.out.1, HBX6.out.up HN7.out.1, HN7.out.2, HA6.out.below HN7.out.1, HE6.out.below HN7.out.1, hx6.below HN7.out.1, hy6.below HN7.out.1⟩
  have HCX := Lib.hid hcx
  have HFA := Lib.hid (En.few_iff HOKX.out.symm)
  clear HN7 HB6 HA6 HE6 HBA6 HBB6 HBX6 HEX6 HEY hcx hcy hx6 hy6 HB7
  generalize w6.heap.size = gy at HL ⊢
  clear w6
  simp only [Act.put]
  go_wp2_with (with_reducible (show wpList _ _ _ (Oper.mk _ (Op.load 25 _) _ _ _ _ :: _) _ _); refine pause ?_)
  unfold Paused
  refine wpList_row_w (by rfl) 25 (.tmp 2) (by rfl) w.heap.size (by rfl) 25 ca _ HL.out.ba (by first | exact Tryd.underlying25 | kernel_rfl) (by rfl) (ent_load HL.out.ea.size) ?_
  go_wp2_with (go_at_call 7; refine pause ?_)
  unfold Paused
  refine (ecopy_any a ca U1 O1 cu1 co1 ts w7 HL.out.ea (by have := HFA.out.1; omega) (by have := HFA.out.2.1; omega) (fun x hx => by have := HFA.out.2.2.1 x hx; omega)).mono ?_
  rintro r w8 ⟨cc, Uc, cuc, Oc, coc, tc, rfl, hcp⟩
  have HC8 := Lib.hid hcp
  have HCC := Lib.hid hcp.ent.cells
  have HL8 := Lib.hid (HL.out.up hcp.bel)
  clear hcp
  go_wp2_with (with_reducible (show wpList _ _ _ (Oper.mk _ (Op.store 25 _ _) _ _ _ _ :: _) _ _); refine pause ?_)
  unfold Paused
  change wpList _ _ _ _ _ (w8.alloc (.cells zR 25))
  refine wpList_store_row (by rfl) 25 (.tmp 9) (.tmp 34) (by rfl) w8.heap.size cc (by rfl) (by rfl) 25 zR (Blk.new w8 _ _) (ent_load HC8.out.ent.size) (by rw [HC8.out.ent.size]; rfl) HC8.out.ent.one ?_
  have HN9 := Lib.hid (boxed_in (w := w8) (T := 25) (zs := zR) (cs := cc))
  generalize (w8.alloc (.cells zR 25)).setRow w8.heap.size cc = w9 at HN9 ⊢
  have HL9 := Lib.hid (HL8.out.up HN9.out.1)
  have HC9 := Lib.hid (HC8.out.below HN9.out.1)
  have HBC9 := Lib.hid HN9.out.2
  have HG9 : Hid (w7.heap.size ≤ w8.heap.size) := Lib.hid HC8.out.bel.size
  clear HN9 HL8 HC8
  generalize w8.heap.size = gc at HBC9 HG9 ⊢
  clear w8
  simp only [Act.put]
  go_wp2_with fail
  have HBW : Hid (Below w9.heap.size w9 w9.drew) := Lib.hid (below_drewN (Below.refl _ w9) 1)
  refine wp_region_held (S := (fun w' => Below w9.heap.size w9 w')) (by kernel_rfl) ?_
  change wpAnyH _ _ _ _ _ _ _ _ w9.drew
  refine wpAnyH_take (i := 0) (v := .agg (ca)) rfl (by kernel_rfl) (by kernel_rfl) (by kernel_rfl) (fun _ _ _ h => h) (takes_row 25 (.tmp 2) rfl (by rfl) w.heap.size (by rfl) 25 (ca) _ (fun w' hS => HL9.out.ba.up hS) (by first | exact Tryd.underlying25 | kernel_rfl) (by rfl) (ent_load HL9.out.ea.size)) HBW.out ?_
  try simp only [Act.put, List.getElem_toArray, List.getElem_cons_zero, List.setIfInBounds_toArray, List.set_cons_zero, List.set_cons_succ]
  refine wpAnyH_take (i := 1) (v := .agg (cb)) rfl (by kernel_rfl) (by kernel_rfl) (by kernel_rfl) (fun _ _ _ h => h) (takes_row 25 (.tmp 3) rfl (by rfl) (w.heap.size + 1) (by rfl) 25 (cb) _ (fun w' hS => HL9.out.bb.up hS) (by first | exact Tryd.underlying25 | kernel_rfl) (by rfl) (ent_load HL9.out.eb.size)) HBW.out ?_
  try simp only [Act.put, List.getElem_toArray, List.getElem_cons_zero, List.getElem_cons_succ, List.setIfInBounds_toArray, List.set_cons_zero, List.set_cons_succ]
  refine wpAnyH_take (i := 3) (v := .agg (cx)) rfl (by kernel_rfl) (by kernel_rfl) (by kernel_rfl) (fun _ _ _ h => h) (takes_row 29 (.tmp 5) rfl (by rfl) gx (by rfl) 29 (cx) _ (fun w' hS => HL9.out.bx.up hS) (by first | exact Tryd.underlying29 | kernel_rfl) (by rfl) (rnt_load HL9.out.ex.size)) HBW.out ?_
  try simp only [Act.put, List.getElem_toArray, List.getElem_cons_zero, List.getElem_cons_succ, List.setIfInBounds_toArray, List.set_cons_zero, List.set_cons_succ]
  refine wpAnyH_take (i := 4) (v := .agg (cy)) rfl (by kernel_rfl) (by kernel_rfl) (by kernel_rfl) (fun _ _ _ h => h) (takes_row 29 (.tmp 7) rfl (by rfl) gy (by rfl) 29 (cy) _ (fun w' hS => HL9.out.bY.up hS) (by first | exact Tryd.underlying29 | kernel_rfl) (by rfl) (rnt_load HL9.out.ey.size)) HBW.out ?_
  try simp only [Act.put, List.getElem_toArray, List.getElem_cons_zero, List.getElem_cons_succ, List.setIfInBounds_toArray, List.set_cons_zero, List.set_cons_succ]
  refine all_one (i := 2) (by kernel_rfl) rfl (by rfl) (fun K hK => ?_)
  go_simp
  refine (esame_any a b ca cb U1 O1 U2 O2 cu1 co1 cu2 co2 ts us w9.drew (HL9.out.ea.below HBW.out) (HL9.out.eb.below HBW.out) (by have := HFA.out.1; omega) (by have := HFA.out.2.1; omega)).mono ?_
  rintro r wa ⟨rfl, hba⟩
  have HBa := Lib.hid (below_next HBW.out hba)
  clear hba
  dsimp only
  refine hK _ _ HBa.out ?_; clear hK K
  try simp only [Act.put, List.getElem_toArray, List.getElem_cons_zero, List.getElem_cons_succ, List.setIfInBounds_toArray, List.set_cons_zero, List.set_cons_succ]
  refine all_one (i := 5) (by kernel_rfl) rfl (by rfl) (fun K hK => ?_)
  go_simp
  refine (rsame_any a b cx cy Ux O1 Uy O2 cux co1 cuy co2 ts us wa (HL9.out.ex.below HBa.out) (HL9.out.ey.below HBa.out) (by have := HFA.out.1; omega) (by have := HFA.out.2.1; omega)).mono ?_
  rintro r wb ⟨rfl, hbb⟩
  have HBb := Lib.hid (below_next HBa.out hbb)
  clear hbb
  dsimp only
  refine hK _ _ HBb.out ?_; clear hK K
  try simp only [Act.put, List.getElem_toArray, List.getElem_cons_zero, List.getElem_cons_succ, List.setIfInBounds_toArray, List.set_cons_zero, List.set_cons_succ]
  have hnq : (eqv a b != eqv a b) = false := by simp
  refine wpAnyH_take (i := 6) (v := ?_) rfl (by kernel_rfl) (by kernel_rfl) (by kernel_rfl) (fun _ _ _ h => h) (Or.inl ⟨by rfl, ?_⟩) HBb.out ?_
  rotate_left
  · intro w' hS; go_simp; with_reducible rfl
  try simp only [Act.put, List.getElem_toArray, List.getElem_cons_zero, List.getElem_cons_succ, List.setIfInBounds_toArray, List.set_cons_zero, List.set_cons_succ]
  refine wpAnyH_take (i := 7) (v := ?_) rfl (by kernel_rfl) (by kernel_rfl) (by kernel_rfl) (fun _ _ _ h => h) (Or.inl ⟨by rfl, ?_⟩) HBb.out ?_
  rotate_left
  · intro w' hS; go_simp; with_reducible rfl
  try simp only [Act.put, List.getElem_toArray, List.getElem_cons_zero, List.getElem_cons_succ, List.setIfInBounds_toArray, List.set_cons_zero, List.set_cons_succ]
  refine wpAnyH_take (i := 8) (v := .agg (cc)) rfl (by kernel_rfl) (by kernel_rfl) (by kernel_rfl) (fun _ _ _ h => h) (takes_row 25 (.tmp 9) rfl (by rfl) gc (by rfl) 25 (cc) _ (fun w' hS => HBC9.out.up hS) (by first | exact Tryd.underlying25 | kernel_rfl) (by rfl) (ent_load HC9.out.ent.size)) HBb.out ?_
  try simp only [Act.put, List.getElem_toArray, List.getElem_cons_zero, List.getElem_cons_succ, List.setIfInBounds_toArray, List.set_cons_zero, List.set_cons_succ]
  refine wpAnyH_take (i := 9) (v := .agg (ca)) rfl (by kernel_rfl) (by kernel_rfl) (by kernel_rfl) (fun _ _ _ h => h) (takes_row 25 (.tmp 2) rfl (by rfl) w.heap.size (by rfl) 25 (ca) _ (fun w' hS => HL9.out.ba.up hS) (by first | exact Tryd.underlying25 | kernel_rfl) (by rfl) (ent_load HL9.out.ea.size)) HBb.out ?_
  try simp only [Act.put, List.getElem_toArray, List.getElem_cons_zero, List.getElem_cons_succ, List.setIfInBounds_toArray, List.set_cons_zero, List.set_cons_succ]
  refine all_one (i := 10) (by kernel_rfl) rfl (by rfl) (fun K hK => ?_)
  go_simp
  refine (esame_any a a cc ca Uc Oc U1 O1 cuc coc cu1 co1 tc ts wb (HC9.out.ent.below HBb.out) (HL9.out.ea.below HBb.out) (by have := HFA.out.1; omega) (by have := HFA.out.2.1; omega)).mono ?_
  rintro r wc ⟨rfl, hbc⟩
  have HBc := Lib.hid (below_next HBb.out hbc)
  clear hbc
  dsimp only
  refine hK _ _ HBc.out ?_; clear hK K
  rw [eqv_refl]
  try simp only [Act.put, List.getElem_toArray, List.getElem_cons_zero, List.getElem_cons_succ, List.setIfInBounds_toArray, List.set_cons_zero, List.set_cons_succ]
  refine wpAnyH_take (i := 11) (v := ?_) rfl (by kernel_rfl) (by kernel_rfl) (by kernel_rfl) (fun _ _ _ h => h) (Or.inl ⟨by rfl, ?_⟩) HBc.out ?_
  rotate_left
  · intro w' hS; go_simp; with_reducible rfl
  try simp only [Act.put, List.getElem_toArray, List.getElem_cons_zero, List.getElem_cons_succ, List.setIfInBounds_toArray, List.set_cons_zero, List.set_cons_succ]
  refine wpAnyH_take (i := 12) (v := ?_) rfl (by kernel_rfl) (by kernel_rfl) (by kernel_rfl) (fun _ _ _ h => h) (Or.inl ⟨by rfl, ?_⟩) HBc.out ?_
  rotate_left
  · intro w' hS; go_simp; with_reducible rfl
  try simp only [Act.put, List.getElem_toArray, List.getElem_cons_zero, List.getElem_cons_succ, List.setIfInBounds_toArray, List.set_cons_zero, List.set_cons_succ]
  refine wpAnyH_done (by kernel_rfl) ?_ _
  have HMU := Lib.hid (Mu.of (HC9.out.below HBc.out) gc (HBC9.out.up HBc.out) HG9.out)
  have HL0 := HL
  have HCPT : Hid (∀ t ∈ tc, t.text.length ≤ 400) := Lib.hid (fun t ht => HFA.out.2.2.1 _ (by rw [← HC9.out.ent.txt]; exact List.mem_map.2 ⟨t, ht, rfl⟩))
  clear hnq HC9 HBC9 HG9 HL9 HBW HBa HBb HBc
  obtain ⟨nu, hnu⟩ : ∃ n, n = a.ups.length := ⟨_, rfl⟩
  obtain ⟨no, hno⟩ : ∃ n, n = a.objs.length := ⟨_, rfl⟩
  rw [← hnu, ← hno] at HMU HCC
  have HNU := Lib.hid hnu
  have HNO := Lib.hid hno
  have HU20 : Hid (nu ≤ 20) := Lib.hid (by rw [hnu]; exact HFA.out.1)
  have HO70 : Hid (no ≤ 70) := Lib.hid (by rw [hno]; exact HFA.out.2.1)
  clear hnu hno
  have p3 : wc.cell? ⟨gc, 3, none⟩ = some (.slice Uc nu cuc) := (HMU.out.box.cell 3).trans (by rw [HCC.out]; rfl)
  go_wp2
  clear p3
  go_loopw [51] (fun i wr => ∃ k : Nat, k ≤ nu ∧ i = .int .i64 k ∧ Hid (Mu w7 wr gc cc (.slice Uc nu cuc) (.slice Oc no coc) nu no tc)) (fun i _ => nu - (intOf i).toNat)
  case atStart => exact ⟨0, Nat.zero_le _, rfl, HMU⟩
  case round =>
    obtain ⟨k, hk, rfl, HM⟩ := hrel
    by_cases hlt : k < nu
    · obtain ⟨xs, hus⟩ := HM.out.ups
      obtain ⟨g, hUc⟩ : ∃ g, Uc = some ⟨g, 0, none⟩ := by
        rcases hus.2 with ⟨_, h'⟩ | ⟨g', cap', cur, h', _⟩
        · omega
        · injection h' with e1 _ _
          exact ⟨g', e1⟩
      subst hUc
      have p3 : wr.cell? ⟨gc, 3, none⟩ = some (.slice (some ⟨g, 0, none⟩) nu cuc) := (HM.out.box.cell 3).trans (by rw [HCC.out]; rfl)
      obtain ⟨x0, px⟩ : ∃ x, wr.cell? ⟨g, k * 65, none⟩ = some x := by
        rw [hus.cellAt (k * 65) (by omega), List.getElem?_eq_getElem (by rw [hus.1]; omega)]
        exact ⟨_, rfl⟩
      have pf : wr.frozen? ⟨g, k * 65, none⟩ = false := hus.frozenAt (k * 65)
      have HM2 := Lib.hid (HM.out.ref (k := k * 65) (.string { data := #[111, 116, 104, 101, 114] }))
      have i1 : ((k : Nat) : Int) < nu := by omega
      have i2 : (0 : Int) ≤ ((k : Nat) : Int) := by omega
      have i3 : ((nu : Nat) : Int) ≤ 20 := by have := HU20.out; omega
      have HLT : Hid (k + 1 ≤ nu) := Lib.hid hlt
      clear hus hk hlt
      go_wp2
      go_roundw
      case rel => exact ⟨k + 1, HLT.out, by go_num, HM2⟩
      case measure => have h5 := HLT.out; simp [intOf]; omega
    · obtain rfl : k = nu := by omega
      have ik : ¬ ((k : Nat) : Int) < k := by omega
      have p4 : wr.cell? ⟨gc, 4, none⟩ = some (.slice Oc no coc) := (HM.out.box.cell 4).trans (by rw [HCC.out]; rfl)
      clear hk hlt
      go_wp2
      clear p4 ik
      go_loopw [63] (fun i wr => ∃ j : Nat, j ≤ no ∧ i = .int .i64 j ∧ Hid (Mu w7 wr gc cc (.slice Uc k cuc) (.slice Oc no coc) k no tc)) (fun i _ => no - (intOf i).toNat)
      case atStart => exact ⟨0, Nat.zero_le _, rfl, HM⟩
      case round =>
        obtain ⟨j, hj, rfl, HMj⟩ := hrel
        by_cases hlt : j < no
        · have HTL : Hid (tc.length = no) := Lib.hid (by have h1 := HMj.out.objs.1; rw [List.length_map] at h1; omega)
          obtain ⟨go, hOc⟩ : ∃ g, Oc = some ⟨g, 0, none⟩ := by
            rcases HMj.out.objs.2 with ⟨_, h'⟩ | ⟨g', cap', cur, h', _⟩
            · omega
            · injection h' with e1 _ _
              exact ⟨g', e1⟩
          subst hOc
          have hjt : j < tc.length := by rw [HTL.out]; exact hlt
          have HPC : Hid (∀ w', Mu w7 w' gc cc (.slice Uc k cuc) (.slice (some ⟨go, 0, none⟩) no coc) k no tc → w'.cell? ⟨go, j, none⟩ = some tc[j].val) := Lib.hid (fun w' hm => by
            rw [hm.objs.cellAt j (by omega), List.getElem?_map, List.getElem?_eq_getElem hjt]; rfl)
          have HMT := Lib.hid (List.getElem_mem hjt)
          obtain ⟨Av, cv, hval⟩ := (HMj.out.txt _ (List.getElem_mem hjt)).sl
          generalize tc[j] = t at HPC HMT hval
          obtain ⟨l, hl⟩ : ∃ l, l = t.text.length := ⟨_, rfl⟩
          have hval2 := hval
          rw [← hl] at hval2
          rw [hval2] at HPC
          have HV := Lib.hid hval
          have HLL := Lib.hid hl
          have p4 : wr.cell? ⟨gc, 4, none⟩ = some (.slice (some ⟨go, 0, none⟩) no coc) := (HMj.out.box.cell 4).trans (by rw [HCC.out]; rfl)
          have pc := HPC.out wr HMj.out
          have i1 : ((j : Nat) : Int) < no := by omega
          have i2 : (0 : Int) ≤ ((j : Nat) : Int) := by omega
          have i3 : ((no : Nat) : Int) ≤ 70 := by have := HO70.out; omega
          have HLT : Hid (j + 1 ≤ no) := Lib.hid hlt
          have HL4 : Hid (l ≤ 400) := Lib.hid (by
            rw [hl]
            have h1 := (HCPT.out t HMT.out)
            exact h1)
          clear hjt hval hval2 hl hj hlt
          go_wp2
          clear p4 pc
          go_loopw [72] (fun i wr => ∃ q : Nat, q ≤ l ∧ i = .int .i64 q ∧ Hid (Mu w7 wr gc cc (.slice Uc k cuc) (.slice (some ⟨go, 0, none⟩) no coc) k no tc)) (fun i _ => l - (intOf i).toNat)
          case atStart => exact ⟨0, Nat.zero_le _, rfl, HMj⟩
          case round =>
            obtain ⟨q, hq, rfl, HMq⟩ := hrel
            by_cases hlt : q < l
            · obtain ⟨gt, cs, ct, hv, _, hbt, hby⟩ := (HMq.out.txt t HMT.out).off (by rw [← HLL.out]; omega)
              obtain ⟨x, hx, hxc⟩ := hby q (by rw [← HLL.out]; exact hlt)
              have hA : Av = some ⟨gt, 0, none⟩ := by
                have h1 := HV.out
                rw [hv] at h1
                injection h1 with e1 _ _
                exact e1.symm
              subst hA
              have p4 : wr.cell? ⟨gc, 4, none⟩ = some (.slice (some ⟨go, 0, none⟩) no coc) := (HMq.out.box.cell 4).trans (by rw [HCC.out]; rfl)
              have pc := HPC.out wr HMq.out
              have px : wr.cell? ⟨gt, q, none⟩ = some (.int .u8 (x : Int)) := (hbt.cell q).trans hxc
              have pf : wr.frozen? ⟨gt, q, none⟩ = false := hbt.frozen q
              have HBY := Lib.hid (fun (y : Nat) (hy : y < 256) => HMq.out.byte HMT.out (by rw [← HLL.out]; exact hlt) hv y hy)
              have i4 : ((q : Nat) : Int) < l := by omega
              have i5 : (0 : Int) ≤ ((q : Nat) : Int) := by omega
              have i6 : ((l : Nat) : Int) ≤ 400 := by have := HL4.out; omega
              have HLT2 : Hid (q + 1 ≤ l) := Lib.hid hlt
              obtain ⟨y, hy, hyw⟩ : ∃ y : Nat, y < 256 ∧ IntKind.u8.wrap ((x : Int) + 1) = (y : Int) := by
                refine ⟨(x + 1) % 256, Nat.mod_lt _ (by omega), ?_⟩
                simp [IntKind.wrap, IntKind.signed, IntKind.bits]
              have HM3 := Lib.hid (HBY.out y hy)
              clear hv hbt hby hxc hx hq hlt hy
              go_wp2
              go_roundw
              case rel => exact ⟨q + 1, HLT2.out, by go_num, HM3⟩
              case measure => have h5 := HLT2.out; simp [intOf]; omega
            · obtain rfl : q = l := by omega
              have ik : ¬ ((q : Nat) : Int) < q := by omega
              clear hq hlt
              go_wp2
              go_roundw
              case rel => exact ⟨j + 1, HLT.out, by go_num, HMq⟩
              case measure => have h5 := HLT.out; simp [intOf]; omega
        · obtain rfl : j = no := by omega
          have ik : ¬ ((j : Nat) : Int) < j := by omega
          have HLz := Lib.hid (HL0.out.up HMj.out.bel)
          clear hj hlt
          go_wp2_with (with_reducible (show wpList _ _ _ (Oper.mk _ (Op.load 25 _) _ _ _ _ :: _) _ _); refine pause ?_)
          unfold Paused
          refine wpList_row_w (by rfl) 25 (.tmp 2) (by rfl) w.heap.size (by rfl) 25 ca _ HLz.out.ba (by first | exact Tryd.underlying25 | kernel_rfl) (by rfl) (ent_load HLz.out.ea.size) ?_
          go_wp2_with (go_at_call 6; refine pause ?_)
          unfold Paused
          refine (eof_any a ca U1 O1 cu1 co1 ts wr HLz.out.ea).mono ?_
          rintro r wd ⟨hbd, hokd, _⟩
          obtain ⟨Uz, cuz, rfl, hz⟩ := hokd HOKX.out.symm
          have HLd := Lib.hid (HLz.out.up hbd)
          obtain ⟨cz, hcz⟩ : ∃ cz, cz = ecs a (.slice Uz a.ups.length cuz) O1 co1 := ⟨_, rfl⟩
          rw [← hcz] at hz ⊢
          have HZd := Lib.hid hz
          have H5Z : Hid (cz.size = 5) := Lib.hid (by rw [hcz]; rfl)
          have H1Z : Hid (cz.all (·.oneCell') = true) := Lib.hid (by rw [hcz]; exact ecs1 _ _ _ _ _ _)
          clear hbd hokd hz hcz HLz
          go_wp2_with (with_reducible (show wpList _ _ _ (Oper.mk _ (Op.store 29 _ _) _ _ _ _ :: _) _ _); refine pause ?_)
          unfold Paused
          change wpList _ _ _ _ _ (wd.alloc (.cells zR 29))
          refine wpList_store_row (by rfl) 29 (.tmp 13) (.tmp 90) (by rfl) wd.heap.size cz (by rfl) (by rfl) 29 zR (Blk.new wd _ _) (rnt_load H5Z.out) (by rw [H5Z.out]; rfl) H1Z.out ?_
          have HNe := Lib.hid (boxed_in (w := wd) (T := 29) (zs := zR) (cs := cz))
          generalize (wd.alloc (.cells zR 29)).setRow wd.heap.size cz = we at HNe ⊢
          have HLe := Lib.hid (HLd.out.up HNe.out.1)
          have HZe := Lib.hid (HZd.out.below HNe.out.1)
          have HBZ := Lib.hid HNe.out.2
          clear HNe HLd HZd
          generalize wd.heap.size = gz at HBZ ⊢
          clear wd
          simp only [Act.put]
          go_wp2_with fail
          have HBW : Hid (Below we.heap.size we we.drew) := Lib.hid (below_drewN (Below.refl _ we) 1)
          refine wp_region_held (S := (fun w' => Below we.heap.size we w')) (by kernel_rfl) ?_
          change wpAnyH _ _ _ _ _ _ _ _ we.drew
          refine wpAnyH_take (i := 0) (v := .agg (cz)) rfl (by kernel_rfl) (by kernel_rfl) (by kernel_rfl) (fun _ _ _ h => h) (takes_row 29 (.tmp 13) rfl (by rfl) gz (by rfl) 29 (cz) _ (fun w' hS => HBZ.out.up hS) (by first | exact Tryd.underlying29 | kernel_rfl) (by rfl) (rnt_load HZe.out.size)) HBW.out ?_
          try simp only [Act.put, List.getElem_toArray, List.getElem_cons_zero, List.setIfInBounds_toArray, List.set_cons_zero, List.set_cons_succ]
          refine wpAnyH_take (i := 1) (v := .agg (cx)) rfl (by kernel_rfl) (by kernel_rfl) (by kernel_rfl) (fun _ _ _ h => h) (takes_row 29 (.tmp 5) rfl (by rfl) gx (by rfl) 29 (cx) _ (fun w' hS => HLe.out.bx.up hS) (by first | exact Tryd.underlying29 | kernel_rfl) (by rfl) (rnt_load HLe.out.ex.size)) HBW.out ?_
          try simp only [Act.put, List.getElem_toArray, List.getElem_cons_zero, List.getElem_cons_succ, List.setIfInBounds_toArray, List.set_cons_zero, List.set_cons_succ]
          refine all_one (i := 2) (by kernel_rfl) rfl (by rfl) (fun K hK => ?_)
          go_simp
          refine (rsame_any a a cz cx Uz O1 Ux O1 cuz co1 cux co1 ts ts we.drew (HZe.out.below HBW.out) (HLe.out.ex.below HBW.out) (by have := HFA.out.1; omega) (by have := HFA.out.2.1; omega)).mono ?_
          rintro r wf ⟨rfl, hbf⟩
          have HBf := Lib.hid (below_next HBW.out hbf)
          clear hbf
          dsimp only
          refine hK _ _ HBf.out ?_; clear hK K
          rw [eqv_refl]
          try simp only [Act.put, List.getElem_toArray, List.getElem_cons_zero, List.getElem_cons_succ, List.setIfInBounds_toArray, List.set_cons_zero, List.set_cons_succ]
          refine wpAnyH_take (i := 3) (v := ?_) rfl (by kernel_rfl) (by kernel_rfl) (by kernel_rfl) (fun _ _ _ h => h) (Or.inl ⟨by rfl, ?_⟩) HBf.out ?_
          rotate_left
          · intro w' hS; go_simp; with_reducible rfl
          try simp only [Act.put, List.getElem_toArray, List.getElem_cons_zero, List.getElem_cons_succ, List.setIfInBounds_toArray, List.set_cons_zero, List.set_cons_succ]
          refine wpAnyH_take (i := 4) (v := ?_) rfl (by kernel_rfl) (by kernel_rfl) (by kernel_rfl) (fun _ _ _ h => h) (Or.inl ⟨by rfl, ?_⟩) HBf.out ?_
          rotate_left
          · intro w' hS; go_simp; with_reducible rfl
          try simp only [Act.put, List.getElem_toArray, List.getElem_cons_zero, List.getElem_cons_succ, List.setIfInBounds_toArray, List.set_cons_zero, List.set_cons_succ]
          refine wpAnyH_take (i := 5) (v := ?_) rfl (by kernel_rfl) (by kernel_rfl) (by kernel_rfl) (fun _ _ _ h => h) (Or.inl ⟨by rfl, ?_⟩) HBf.out ?_
          rotate_left
          · intro w' hS; have p3 := ((HLe.out.ba.up hS).cell 3).trans (show ca[3]? = some (.slice U1 k cu1) by rw [HLe.out.ea.cells, HNU.out]; rfl); go_simp; with_reducible rfl
          try simp only [Act.put, List.getElem_toArray, List.getElem_cons_zero, List.getElem_cons_succ, List.setIfInBounds_toArray, List.set_cons_zero, List.set_cons_succ]
          refine wpAnyH_take (i := 6) (v := ?_) rfl (by kernel_rfl) (by kernel_rfl) (by kernel_rfl) (fun _ _ _ h => h) (Or.inl ⟨by rfl, ?_⟩) HBf.out ?_
          rotate_left
          · intro w' hS; go_simp; with_reducible rfl
          try simp only [Act.put, List.getElem_toArray, List.getElem_cons_zero, List.getElem_cons_succ, List.setIfInBounds_toArray, List.set_cons_zero, List.set_cons_succ]
          by_cases h0 : k = 0
          · have b0 : ((k : Int) == 0) = true := by rw [h0]; rfl
            refine wpAnyH_take (i := 7) (v := ?_) rfl (by kernel_rfl) (by kernel_rfl) (by kernel_rfl) (fun _ _ _ h => h) (Or.inl ⟨by rfl, ?_⟩) HBf.out ?_
            rotate_left
            · intro w' hS; go_simp; with_reducible rfl
            try simp only [Act.put, List.getElem_toArray, List.getElem_cons_zero, List.getElem_cons_succ, List.setIfInBounds_toArray, List.set_cons_zero, List.set_cons_succ]
            refine wpAnyH_take (i := 8) (v := ?_) rfl (by kernel_rfl) (by kernel_rfl) (by kernel_rfl) (fun _ _ _ h => h) (Or.inl ⟨by rfl, ?_⟩) HBf.out ?_
            rotate_left
            · intro w' hS; go_simp; with_reducible rfl
            try simp only [Act.put, List.getElem_toArray, List.getElem_cons_zero, List.getElem_cons_succ, List.setIfInBounds_toArray, List.set_cons_zero, List.set_cons_succ]
            refine wpAnyH_take (i := 9) (v := undef) rfl (by kernel_rfl) (by kernel_rfl) (by kernel_rfl) (fun _ _ _ h => h) (Or.inr ⟨by rfl, rfl⟩) HBf.out ?_
            try simp only [Act.put, List.getElem_toArray, List.getElem_cons_zero, List.getElem_cons_succ, List.setIfInBounds_toArray, List.set_cons_zero, List.set_cons_succ]
            refine wpAnyH_take (i := 10) (v := undef) rfl (by kernel_rfl) (by kernel_rfl) (by kernel_rfl) (fun _ _ _ h => h) (Or.inr ⟨by rfl, rfl⟩) HBf.out ?_
            try simp only [Act.put, List.getElem_toArray, List.getElem_cons_zero, List.getElem_cons_succ, List.setIfInBounds_toArray, List.set_cons_zero, List.set_cons_succ]
            refine wpAnyH_take (i := 11) (v := undef) rfl (by kernel_rfl) (by kernel_rfl) (by kernel_rfl) (fun _ _ _ h => h) (Or.inr ⟨by rfl, rfl⟩) HBf.out ?_
            try simp only [Act.put, List.getElem_toArray, List.getElem_cons_zero, List.getElem_cons_succ, List.setIfInBounds_toArray, List.set_cons_zero, List.set_cons_succ]
            refine wpAnyH_take (i := 12) (v := undef) rfl (by kernel_rfl) (by kernel_rfl) (by kernel_rfl) (fun _ _ _ h => h) (Or.inr ⟨by rfl, rfl⟩) HBf.out ?_
            try simp only [Act.put, List.getElem_toArray, List.getElem_cons_zero, List.getElem_cons_succ, List.setIfInBounds_toArray, List.set_cons_zero, List.set_cons_succ]
            refine wpAnyH_take (i := 13) (v := undef) rfl (by kernel_rfl) (by kernel_rfl) (by kernel_rfl) (fun _ _ _ h => h) (Or.inr ⟨by rfl, rfl⟩) HBf.out ?_
            try simp only [Act.put, List.getElem_toArray, List.getElem_cons_zero, List.getElem_cons_succ, List.setIfInBounds_toArray, List.set_cons_zero, List.set_cons_succ]
            refine wpAnyH_take (i := 14) (v := undef) rfl (by kernel_rfl) (by kernel_rfl) (by kernel_rfl) (fun _ _ _ h => h) (Or.inr ⟨by rfl, rfl⟩) HBf.out ?_
            try simp only [Act.put, List.getElem_toArray, List.getElem_cons_zero, List.getElem_cons_succ, List.setIfInBounds_toArray, List.set_cons_zero, List.set_cons_succ]
            refine wpAnyH_take (i := 15) (v := undef) rfl (by kernel_rfl) (by kernel_rfl) (by kernel_rfl) (fun _ _ _ h => h) (Or.inr ⟨by rfl, rfl⟩) HBf.out ?_
            try simp only [Act.put, List.getElem_toArray, List.getElem_cons_zero, List.getElem_cons_succ, List.setIfInBounds_toArray, List.set_cons_zero, List.set_cons_succ]
            refine wpAnyH_take (i := 16) (v := undef) rfl (by kernel_rfl) (by kernel_rfl) (by kernel_rfl) (fun _ _ _ h => h) (Or.inr ⟨by rfl, rfl⟩) HBf.out ?_
            try simp only [Act.put, List.getElem_toArray, List.getElem_cons_zero, List.getElem_cons_succ, List.setIfInBounds_toArray, List.set_cons_zero, List.set_cons_succ]
            refine wpAnyH_take (i := 17) (v := undef) rfl (by kernel_rfl) (by kernel_rfl) (by kernel_rfl) (fun _ _ _ h => h) (Or.inr ⟨by rfl, rfl⟩) HBf.out ?_
            try simp only [Act.put, List.getElem_toArray, List.getElem_cons_zero, List.getElem_cons_succ, List.setIfInBounds_toArray, List.set_cons_zero, List.set_cons_succ]
            refine wpAnyH_take (i := 18) (v := undef) rfl (by kernel_rfl) (by kernel_rfl) (by kernel_rfl) (fun _ _ _ h => h) (Or.inr ⟨by rfl, rfl⟩) HBf.out ?_
            try simp only [Act.put, List.getElem_toArray, List.getElem_cons_zero, List.getElem_cons_succ, List.setIfInBounds_toArray, List.set_cons_zero, List.set_cons_succ]
            refine wpAnyH_take (i := 19) (v := undef) rfl (by kernel_rfl) (by kernel_rfl) (by kernel_rfl) (fun _ _ _ h => h) (Or.inr ⟨by rfl, rfl⟩) HBf.out ?_
            try simp only [Act.put, List.getElem_toArray, List.getElem_cons_zero, List.getElem_cons_succ, List.setIfInBounds_toArray, List.set_cons_zero, List.set_cons_succ]
            refine wpAnyH_take (i := 20) (v := undef) rfl (by kernel_rfl) (by kernel_rfl) (by kernel_rfl) (fun _ _ _ h => h) (Or.inr ⟨by rfl, rfl⟩) HBf.out ?_
            try simp only [Act.put, List.getElem_toArray, List.getElem_cons_zero, List.getElem_cons_succ, List.setIfInBounds_toArray, List.set_cons_zero, List.set_cons_succ]
            refine wpAnyH_take (i := 21) (v := undef) rfl (by kernel_rfl) (by kernel_rfl) (by kernel_rfl) (fun _ _ _ h => h) (Or.inr ⟨by rfl, rfl⟩) HBf.out ?_
            try simp only [Act.put, List.getElem_toArray, List.getElem_cons_zero, List.getElem_cons_succ, List.setIfInBounds_toArray, List.set_cons_zero, List.set_cons_succ]
            refine wpAnyH_take (i := 22) (v := undef) rfl (by kernel_rfl) (by kernel_rfl) (by kernel_rfl) (fun _ _ _ h => h) (Or.inr ⟨by rfl, rfl⟩) HBf.out ?_
            try simp only [Act.put, List.getElem_toArray, List.getElem_cons_zero, List.getElem_cons_succ, List.setIfInBounds_toArray, List.set_cons_zero, List.set_cons_succ]
            refine wpAnyH_take (i := 23) (v := undef) rfl (by kernel_rfl) (by kernel_rfl) (by kernel_rfl) (fun _ _ _ h => h) (Or.inr ⟨by rfl, rfl⟩) HBf.out ?_
            try simp only [Act.put, List.getElem_toArray, List.getElem_cons_zero, List.getElem_cons_succ, List.setIfInBounds_toArray, List.set_cons_zero, List.set_cons_succ]
            refine wpAnyH_take (i := 24) (v := undef) rfl (by kernel_rfl) (by kernel_rfl) (by kernel_rfl) (fun _ _ _ h => h) (Or.inr ⟨by rfl, rfl⟩) HBf.out ?_
            try simp only [Act.put, List.getElem_toArray, List.getElem_cons_zero, List.getElem_cons_succ, List.setIfInBounds_toArray, List.set_cons_zero, List.set_cons_succ]
            refine wpAnyH_take (i := 25) (v := undef) rfl (by kernel_rfl) (by kernel_rfl) (by kernel_rfl) (fun _ _ _ h => h) (Or.inr ⟨by rfl, rfl⟩) HBf.out ?_
            try simp only [Act.put, List.getElem_toArray, List.getElem_cons_zero, List.getElem_cons_succ, List.setIfInBounds_toArray, List.set_cons_zero, List.set_cons_succ]
            refine wpAnyH_take (i := 26) (v := undef) rfl (by kernel_rfl) (by kernel_rfl) (by kernel_rfl) (fun _ _ _ h => h) (Or.inr ⟨by rfl, rfl⟩) HBf.out ?_
            try simp only [Act.put, List.getElem_toArray, List.getElem_cons_zero, List.getElem_cons_succ, List.setIfInBounds_toArray, List.set_cons_zero, List.set_cons_succ]
            refine wpAnyH_take (i := 27) (v := undef) rfl (by kernel_rfl) (by kernel_rfl) (by kernel_rfl) (fun _ _ _ h => h) (Or.inr ⟨by rfl, rfl⟩) HBf.out ?_
            try simp only [Act.put, List.getElem_toArray, List.getElem_cons_zero, List.getElem_cons_succ, List.setIfInBounds_toArray, List.set_cons_zero, List.set_cons_succ]
            refine wpAnyH_take (i := 28) (v := undef) rfl (by kernel_rfl) (by kernel_rfl) (by kernel_rfl) (fun _ _ _ h => h) (Or.inr ⟨by rfl, rfl⟩) HBf.out ?_
            try simp only [Act.put, List.getElem_toArray, List.getElem_cons_zero, List.getElem_cons_succ, List.setIfInBounds_toArray, List.set_cons_zero, List.set_cons_succ]
            refine wpAnyH_take (i := 29) (v := undef) rfl (by kernel_rfl) (by kernel_rfl) (by kernel_rfl) (fun _ _ _ h => h) (Or.inr ⟨by rfl, rfl⟩) HBf.out ?_
            try simp only [Act.put, List.getElem_toArray, List.getElem_cons_zero, List.getElem_cons_succ, List.setIfInBounds_toArray, List.set_cons_zero, List.set_cons_succ]
            refine wpAnyH_take (i := 30) (v := ?_) rfl (by kernel_rfl) (by kernel_rfl) (by kernel_rfl) (fun _ _ _ h => h) (Or.inl ⟨by rfl, ?_⟩) HBf.out ?_
            rotate_left
            · intro w' hS; go_simp; with_reducible rfl
            try simp only [Act.put, List.getElem_toArray, List.getElem_cons_zero, List.getElem_cons_succ, List.setIfInBounds_toArray, List.set_cons_zero, List.set_cons_succ]
            refine wpAnyH_take (i := 31) (v := ?_) rfl (by kernel_rfl) (by kernel_rfl) (by kernel_rfl) (fun _ _ _ h => h) (Or.inl ⟨by rfl, ?_⟩) HBf.out ?_
            rotate_left
            · intro w' hS; go_simp; with_reducible rfl
            try simp only [Act.put, List.getElem_toArray, List.getElem_cons_zero, List.getElem_cons_succ, List.setIfInBounds_toArray, List.set_cons_zero, List.set_cons_succ]
            refine wpAnyH_take (i := 32) (v := ?_) rfl (by kernel_rfl) (by kernel_rfl) (by kernel_rfl) (fun _ _ _ h => h) (Or.inl ⟨by rfl, ?_⟩) HBf.out ?_
            rotate_left
            · intro w' hS; go_simp; with_reducible rfl
            try simp only [Act.put, List.getElem_toArray, List.getElem_cons_zero, List.getElem_cons_succ, List.setIfInBounds_toArray, List.set_cons_zero, List.set_cons_succ]
            refine wpAnyH_done (by kernel_rfl) ?_ _
            go_wp2
            go_ret
            exact ⟨rfl, below_next HLe.out.bel HBf.out⟩
          · have b0 : ((k : Int) == 0) = false := by simp [h0]
            refine wpAnyH_take (i := 7) (v := ?_) rfl (by kernel_rfl) (by kernel_rfl) (by kernel_rfl) (fun _ _ _ h => h) (Or.inl ⟨by rfl, ?_⟩) HBf.out ?_
            rotate_left
            · intro w' hS; go_simp; with_reducible rfl
            try simp only [Act.put, List.getElem_toArray, List.getElem_cons_zero, List.getElem_cons_succ, List.setIfInBounds_toArray, List.set_cons_zero, List.set_cons_succ]
            refine wpAnyH_take (i := 8) (v := ?_) rfl (by kernel_rfl) (by kernel_rfl) (by kernel_rfl) (fun _ _ _ h => h) (Or.inl ⟨by rfl, ?_⟩) HBf.out ?_
            rotate_left
            · intro w' hS; go_simp; with_reducible rfl
            try simp only [Act.put, List.getElem_toArray, List.getElem_cons_zero, List.getElem_cons_succ, List.setIfInBounds_toArray, List.set_cons_zero, List.set_cons_succ]
            have hk0 : 0 < a.ups.length := by rw [← HNU.out]; omega
            obtain ⟨b1, o1, rfl, hl1, hg1⟩ := HLe.out.ea.ups.up rfl HLe.out.ea.fit hk0
            obtain ⟨b2, o2, hUx, hl2, hg2⟩ := HLe.out.ex.ups.up rfl HLe.out.ex.fit hk0
            have hft := HLe.out.ea.fit _ (List.getElem_mem hk0)
            rw [Nat.zero_mul, Nat.add_zero] at hg1 hg2
            generalize a.ups[0] = u at hg1 hg2 hft
            have HFU := Lib.hid hft
            have HG1 := Lib.hid (fun w' (h : Below we.heap.size we w') => rng_below hg1 hl1 h)
            have HG2 := Lib.hid (fun w' (h : Below we.heap.size we w') => rng_below hg2 hl2 h)
            have HX3 : Hid (cx[3]? = some (.slice (some ⟨b2, o2, none⟩) k cux)) := Lib.hid (by rw [HLe.out.ex.cells, HNU.out, hUx]; rfl)
            have i7 : ((0 : Nat) : Int) < (k : Int) := by omega
            have i8 : (0 : Int) < (k : Int) := by omega
            have i9 : 0 < k := by omega
            clear hk0 hl1 hg1 hl2 hg2 hft hUx h0
            refine wpAnyH_take (i := 9) (v := ?_) rfl (by kernel_rfl) (by kernel_rfl) (by kernel_rfl) (fun _ _ _ h => h) (Or.inl ⟨by rfl, ?_⟩) HBf.out ?_
            rotate_left
            · intro w' hS; go_simp; with_reducible rfl
            try simp only [Act.put, List.getElem_toArray, List.getElem_cons_zero, List.getElem_cons_succ, List.setIfInBounds_toArray, List.set_cons_zero, List.set_cons_succ]
            refine wpAnyH_take (i := 10) (v := ?_) rfl (by kernel_rfl) (by kernel_rfl) (by kernel_rfl) (fun _ _ _ h => h) (Or.inl ⟨by rfl, ?_⟩) HBf.out ?_
            rotate_left
            · intro w' hS; have p3 := ((HLe.out.ba.up hS).cell 3).trans (show ca[3]? = some (.slice (some ⟨b1, o1, none⟩) k cu1) by rw [HLe.out.ea.cells, HNU.out]; rfl); go_simp; with_reducible rfl
            try simp only [Act.put, List.getElem_toArray, List.getElem_cons_zero, List.getElem_cons_succ, List.setIfInBounds_toArray, List.set_cons_zero, List.set_cons_succ]
            refine wpAnyH_take (i := 11) (v := ?_) rfl (by kernel_rfl) (by kernel_rfl) (by kernel_rfl) (fun _ _ _ h => h) (Or.inl ⟨by rfl, ?_⟩) HBf.out ?_
            rotate_left
            · intro w' hS; go_simp; with_reducible rfl
            try simp only [Act.put, List.getElem_toArray, List.getElem_cons_zero, List.getElem_cons_succ, List.setIfInBounds_toArray, List.set_cons_zero, List.set_cons_succ]
            refine wpAnyH_take (i := 12) (v := .agg (cellsU1 u).toArray) rfl (by kernel_rfl) (by kernel_rfl) (by kernel_rfl) (fun _ _ _ h => h) (takes_midE 38 (.tmp 103) rfl (by rfl) b1 o1 (by rfl) (cellsU1 u) _ (fun w' hS => HG1.out _ hS) (by first | exact Tryd.underlying38 | kernel_rfl) (by rfl) (upd_load HFU.out)) HBf.out ?_
            try simp only [Act.put, List.getElem_toArray, List.getElem_cons_zero, List.getElem_cons_succ, List.setIfInBounds_toArray, List.set_cons_zero, List.set_cons_succ]
            refine wpAnyH_take (i := 13) (v := ?_) rfl (by kernel_rfl) (by kernel_rfl) (by kernel_rfl) (fun _ _ _ h => h) (Or.inl ⟨by rfl, ?_⟩) HBf.out ?_
            rotate_left
            · intro w' hS; go_simp; with_reducible rfl
            try simp only [Act.put, List.getElem_toArray, List.getElem_cons_zero, List.getElem_cons_succ, List.setIfInBounds_toArray, List.set_cons_zero, List.set_cons_succ]
            refine wpAnyH_take (i := 14) (v := ?_) rfl (by kernel_rfl) (by kernel_rfl) (by kernel_rfl) (fun _ _ _ h => h) (Or.inl ⟨by rfl, ?_⟩) HBf.out ?_
            rotate_left
            · intro w' hS; have p3 := ((HLe.out.bx.up hS).cell 3).trans HX3.out; go_simp; with_reducible rfl
            try simp only [Act.put, List.getElem_toArray, List.getElem_cons_zero, List.getElem_cons_succ, List.setIfInBounds_toArray, List.set_cons_zero, List.set_cons_succ]
            refine wpAnyH_take (i := 15) (v := ?_) rfl (by kernel_rfl) (by kernel_rfl) (by kernel_rfl) (fun _ _ _ h => h) (Or.inl ⟨by rfl, ?_⟩) HBf.out ?_
            rotate_left
            · intro w' hS; go_simp; with_reducible rfl
            try simp only [Act.put, List.getElem_toArray, List.getElem_cons_zero, List.getElem_cons_succ, List.setIfInBounds_toArray, List.set_cons_zero, List.set_cons_succ]
            refine wpAnyH_take (i := 16) (v := ?_) rfl (by kernel_rfl) (by kernel_rfl) (by kernel_rfl) (fun _ _ _ h => h) (Or.inl ⟨by rfl, ?_⟩) HBf.out ?_
            rotate_left
            · intro w' hS; go_simp; with_reducible rfl
            try simp only [Act.put, List.getElem_toArray, List.getElem_cons_zero, List.getElem_cons_succ, List.setIfInBounds_toArray, List.set_cons_zero, List.set_cons_succ]
            refine wpAnyH_take (i := 17) (v := ?_) rfl (by kernel_rfl) (by kernel_rfl) (by kernel_rfl) (fun _ _ _ h => h) (Or.inl ⟨by rfl, ?_⟩) HBf.out ?_
            rotate_left
            · intro w' hS; have p0 : w'.cell? ⟨b2, o2, none⟩ = some (.string u.ref) := HG2.out _ hS 0 _ rfl; go_simp; with_reducible rfl
            try simp only [Act.put, List.getElem_toArray, List.getElem_cons_zero, List.getElem_cons_succ, List.setIfInBounds_toArray, List.set_cons_zero, List.set_cons_succ]
            refine wpAnyH_take (i := 18) (v := ?_) rfl (by kernel_rfl) (by kernel_rfl) (by kernel_rfl) (fun _ _ _ h => h) (Or.inl ⟨by rfl, ?_⟩) HBf.out ?_
            rotate_left
            · intro w' hS; go_simp; with_reducible rfl
            try simp only [Act.put, List.getElem_toArray, List.getElem_cons_zero, List.getElem_cons_succ, List.setIfInBounds_toArray, List.set_cons_zero, List.set_cons_succ]
            refine wpAnyH_take (i := 19) (v := ?_) rfl (by kernel_rfl) (by kernel_rfl) (by kernel_rfl) (fun _ _ _ h => h) (Or.inl ⟨by rfl, ?_⟩) HBf.out ?_
            rotate_left
            · intro w' hS; have p3 := ((HLe.out.bx.up hS).cell 3).trans HX3.out; go_simp; with_reducible rfl
            try simp only [Act.put, List.getElem_toArray, List.getElem_cons_zero, List.getElem_cons_succ, List.setIfInBounds_toArray, List.set_cons_zero, List.set_cons_succ]
            refine wpAnyH_take (i := 20) (v := ?_) rfl (by kernel_rfl) (by kernel_rfl) (by kernel_rfl) (fun _ _ _ h => h) (Or.inl ⟨by rfl, ?_⟩) HBf.out ?_
            rotate_left
            · intro w' hS; go_simp; with_reducible rfl
            try simp only [Act.put, List.getElem_toArray, List.getElem_cons_zero, List.getElem_cons_succ, List.setIfInBounds_toArray, List.set_cons_zero, List.set_cons_succ]
            refine wpAnyH_take (i := 21) (v := ?_) rfl (by kernel_rfl) (by kernel_rfl) (by kernel_rfl) (fun _ _ _ h => h) (Or.inl ⟨by rfl, ?_⟩) HBf.out ?_
            rotate_left
            · intro w' hS; go_simp; with_reducible rfl
            try simp only [Act.put, List.getElem_toArray, List.getElem_cons_zero, List.getElem_cons_succ, List.setIfInBounds_toArray, List.set_cons_zero, List.set_cons_succ]
            refine wpAnyH_take (i := 22) (v := .agg (cellsB u.old).toArray) rfl (by kernel_rfl) (by kernel_rfl) (by kernel_rfl) (fun _ _ _ h => h) (takes_midE 35 (.tmp 113) rfl (by rfl) b2 (o2 + 1) (by rfl) (cellsB u.old) _ (fun w' hS => rng_old HFU.out (HG2.out _ hS)) (by first | exact Tryd.underlying35 | kernel_rfl) (by rfl) (by rw [cellsB_len, HFU.out.1.1]; kernel_rfl)) HBf.out ?_
            try simp only [Act.put, List.getElem_toArray, List.getElem_cons_zero, List.getElem_cons_succ, List.setIfInBounds_toArray, List.set_cons_zero, List.set_cons_succ]
            refine wpAnyH_take (i := 23) (v := ?_) rfl (by kernel_rfl) (by kernel_rfl) (by kernel_rfl) (fun _ _ _ h => h) (Or.inl ⟨by rfl, ?_⟩) HBf.out ?_
            rotate_left
            · intro w' hS; go_simp; with_reducible rfl
            try simp only [Act.put, List.getElem_toArray, List.getElem_cons_zero, List.getElem_cons_succ, List.setIfInBounds_toArray, List.set_cons_zero, List.set_cons_succ]
            refine wpAnyH_take (i := 24) (v := ?_) rfl (by kernel_rfl) (by kernel_rfl) (by kernel_rfl) (fun _ _ _ h => h) (Or.inl ⟨by rfl, ?_⟩) HBf.out ?_
            rotate_left
            · intro w' hS; have p3 := ((HLe.out.bx.up hS).cell 3).trans HX3.out; go_simp; with_reducible rfl
            try simp only [Act.put, List.getElem_toArray, List.getElem_cons_zero, List.getElem_cons_succ, List.setIfInBounds_toArray, List.set_cons_zero, List.set_cons_succ]
            refine wpAnyH_take (i := 25) (v := ?_) rfl (by kernel_rfl) (by kernel_rfl) (by kernel_rfl) (fun _ _ _ h => h) (Or.inl ⟨by rfl, ?_⟩) HBf.out ?_
            rotate_left
            · intro w' hS; go_simp; with_reducible rfl
            try simp only [Act.put, List.getElem_toArray, List.getElem_cons_zero, List.getElem_cons_succ, List.setIfInBounds_toArray, List.set_cons_zero, List.set_cons_succ]
            refine wpAnyH_take (i := 26) (v := ?_) rfl (by kernel_rfl) (by kernel_rfl) (by kernel_rfl) (fun _ _ _ h => h) (Or.inl ⟨by rfl, ?_⟩) HBf.out ?_
            rotate_left
            · intro w' hS; go_simp; with_reducible rfl
            try simp only [Act.put, List.getElem_toArray, List.getElem_cons_zero, List.getElem_cons_succ, List.setIfInBounds_toArray, List.set_cons_zero, List.set_cons_succ]
            refine wpAnyH_take (i := 27) (v := .agg (cellsB u.new).toArray) rfl (by kernel_rfl) (by kernel_rfl) (by kernel_rfl) (fun _ _ _ h => h) (takes_midE 35 (.tmp 118) rfl (by rfl) b2 (o2 + 33) (by rfl) (cellsB u.new) _ (fun w' hS => rng_new HFU.out (HG2.out _ hS)) (by first | exact Tryd.underlying35 | kernel_rfl) (by rfl) (by rw [cellsB_len, HFU.out.2.1]; kernel_rfl)) HBf.out ?_
            try simp only [Act.put, List.getElem_toArray, List.getElem_cons_zero, List.getElem_cons_succ, List.setIfInBounds_toArray, List.set_cons_zero, List.set_cons_succ]
            refine wpAnyH_take (i := 28) (v := .agg (cellsU1 u).toArray) rfl (by kernel_rfl) (by kernel_rfl) (by kernel_rfl) (fun _ _ _ h => h) (Or.inl ⟨by rfl, fun w' hS => exec_buildE 38 _ rfl [(0, .string u.ref), (1, .agg (cellsB u.old).toArray), (2, .agg (cellsB u.new).toArray)] (by kernel_rfl) _ (upd_built u HFU.out)⟩) HBf.out ?_
            try simp only [Act.put, List.getElem_toArray, List.getElem_cons_zero, List.getElem_cons_succ, List.setIfInBounds_toArray, List.set_cons_zero, List.set_cons_succ]
            refine wpAnyH_take (i := 29) (v := .bool true) rfl (by kernel_rfl) (by kernel_rfl) (by kernel_rfl) (fun _ _ _ h => h) (Or.inl ⟨by rfl, fun w' hS => exec_eqlE 38 (.tmp 104) (.tmp 120) rfl (cellsU1 u).toArray (cellsU1 u).toArray (by rfl) (by rfl) (by rw [up_eq w' u u HFU.out HFU.out, eqv_refl])⟩) HBf.out ?_
            try simp only [Act.put, List.getElem_toArray, List.getElem_cons_zero, List.getElem_cons_succ, List.setIfInBounds_toArray, List.set_cons_zero, List.set_cons_succ]
            refine wpAnyH_take (i := 30) (v := ?_) rfl (by kernel_rfl) (by kernel_rfl) (by kernel_rfl) (fun _ _ _ h => h) (Or.inl ⟨by rfl, ?_⟩) HBf.out ?_
            rotate_left
            · intro w' hS; go_simp; with_reducible rfl
            try simp only [Act.put, List.getElem_toArray, List.getElem_cons_zero, List.getElem_cons_succ, List.setIfInBounds_toArray, List.set_cons_zero, List.set_cons_succ]
            refine wpAnyH_take (i := 31) (v := ?_) rfl (by kernel_rfl) (by kernel_rfl) (by kernel_rfl) (fun _ _ _ h => h) (Or.inl ⟨by rfl, ?_⟩) HBf.out ?_
            rotate_left
            · intro w' hS; go_simp; with_reducible rfl
            try simp only [Act.put, List.getElem_toArray, List.getElem_cons_zero, List.getElem_cons_succ, List.setIfInBounds_toArray, List.set_cons_zero, List.set_cons_succ]
            refine wpAnyH_take (i := 32) (v := ?_) rfl (by kernel_rfl) (by kernel_rfl) (by kernel_rfl) (fun _ _ _ h => h) (Or.inl ⟨by rfl, ?_⟩) HBf.out ?_
            rotate_left
            · intro w' hS; go_simp; with_reducible rfl
            try simp only [Act.put, List.getElem_toArray, List.getElem_cons_zero, List.getElem_cons_succ, List.setIfInBounds_toArray, List.set_cons_zero, List.set_cons_succ]
            refine wpAnyH_done (by kernel_rfl) ?_ _
            go_wp2
            go_ret
            exact ⟨rfl, below_next HLe.out.bel HBf.out⟩
end Go.Proofs.YtldfjpafpfakcaaDoor
