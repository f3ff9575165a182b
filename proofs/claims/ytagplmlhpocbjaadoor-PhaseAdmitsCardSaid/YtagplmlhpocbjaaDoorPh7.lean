/- The law's Do: an event by its number; the chapter's example. -/
import Derived.Test.YtagplmlhpocbjaaDoorPh6
namespace Go.Proofs.YtagplmlhpocbjaaDoor
open Go Go.RowKit
set_option maxRecDepth 100000 in
theorem do_any (k : Nat) (s e x : Int) (a : Nat → Addr) (w : World) (hk : k < 5) (hS : Sents w a) :
    Calls Tryd.prog 8 #[phV s e, .int .i64 (k : Nat), .int .i64 x] w fun r w' => r = .returned (phOut a (Ph.run k s e x)) ∧ Below w.heap.size w w' := by
  obtain ⟨w0, hw0, x1, x2, hb0, hz⟩ := two_new w 23 23 (phC s e) (phC 0 0)
  have HP : Hid (PhE w w0 s e) := Lib.hid ⟨x1, ⟨_, x2, rfl⟩, hb0⟩
  have hS0 := hS.below hb0 (Nat.le_refl _)
  have HW := Lib.hid hw0
  clear hw0 x1 x2 hb0 hz hS
  match k, hk with
  | 0, _ =>
    have C := stage_any s e x a w0 hS0
    clear hS0 hk
    generalize Ph.run 0 s e x = q at C ⊢
    unfold phV at C ⊢
    go_enter Tryd.func8, Tryd.ntmps8
    go_wp2_with (go_at_call 17; refine pause ?_)
    unfold Paused
    rw [← HW.out]
    refine C.mono ?_
    rintro r w1 ⟨rfl, hb1⟩
    have HP1 := Lib.hid (HP.out.below hb1)
    obtain ⟨cR, hcR, hcs⟩ := HP1.out.2.1
    have HCR := Lib.hid hcR
    have HCS := Lib.hid hcs
    clear hcR hcs hb1
    obtain ⟨q1, q2, q3⟩ := q
    unfold phOut phV
    dsimp only
    obtain ⟨u, hu⟩ : ∃ u, u = erV a q3 := ⟨_, rfl⟩
    rw [← hu]
    have HU := Lib.hid hu
    clear hu
    try simp only [Act.put, List.getElem_toArray, List.getElem_cons_zero, List.getElem_cons_succ, List.setIfInBounds_toArray, List.set_cons_zero, List.set_cons_succ]
    go_wp2_with (with_reducible (show wpList _ _ _ (Oper.mk _ (Op.store 23 _ _) _ _ _ _ :: _) _ _); refine pause ?_)
    unfold Paused
    refine wpList_store_row rfl 23 (.tmp 6) (.tmp 14) rfl (w.heap.size + 1) (phC q1 q2) (by rfl) (by rfl) 23 cR HCR.out ph_load HCS.out (ph_one _ _) ?_
    have HZ : Hid (Blk (w1.setRow (w.heap.size + 1) (phC q1 q2)) (w.heap.size + 1) 23 (phC q1 q2)) := Lib.hid (HCR.out.row _)
    have HBZ : Hid (Below w.heap.size w (w1.setRow (w.heap.size + 1) (phC q1 q2))) := Lib.hid (below_row HP1.out.2.2 (by omega) _)
    generalize w1.setRow (w.heap.size + 1) (phC q1 q2) = wz at HZ HBZ
    go_wp2
    exact bodyPost_ret (v := .tuple #[.agg (phC q1 q2), u]) (results_cell_ph rfl _ _ (w.heap.size + 1) 23 (phC q1 q2) _ _ (by rfl) (by rfl) HZ.out Tryd.underlying23 rfl ph_load) rfl ⟨by rw [HU.out]; rfl, HBZ.out⟩
  | 1, _ =>
    have C := open_any s e x a w0 hS0
    clear hS0 hk
    generalize Ph.run 1 s e x = q at C ⊢
    unfold phV at C ⊢
    go_enter Tryd.func8, Tryd.ntmps8
    go_wp2_with (go_at_call 19; refine pause ?_)
    unfold Paused
    rw [← HW.out]
    refine C.mono ?_
    rintro r w1 ⟨rfl, hb1⟩
    have HP1 := Lib.hid (HP.out.below hb1)
    obtain ⟨cR, hcR, hcs⟩ := HP1.out.2.1
    have HCR := Lib.hid hcR
    have HCS := Lib.hid hcs
    clear hcR hcs hb1
    obtain ⟨q1, q2, q3⟩ := q
    unfold phOut phV
    dsimp only
    obtain ⟨u, hu⟩ : ∃ u, u = erV a q3 := ⟨_, rfl⟩
    rw [← hu]
    have HU := Lib.hid hu
    clear hu
    try simp only [Act.put, List.getElem_toArray, List.getElem_cons_zero, List.getElem_cons_succ, List.setIfInBounds_toArray, List.set_cons_zero, List.set_cons_succ]
    go_wp2_with (with_reducible (show wpList _ _ _ (Oper.mk _ (Op.store 23 _ _) _ _ _ _ :: _) _ _); refine pause ?_)
    unfold Paused
    refine wpList_store_row rfl 23 (.tmp 6) (.tmp 21) rfl (w.heap.size + 1) (phC q1 q2) (by rfl) (by rfl) 23 cR HCR.out ph_load HCS.out (ph_one _ _) ?_
    have HZ : Hid (Blk (w1.setRow (w.heap.size + 1) (phC q1 q2)) (w.heap.size + 1) 23 (phC q1 q2)) := Lib.hid (HCR.out.row _)
    have HBZ : Hid (Below w.heap.size w (w1.setRow (w.heap.size + 1) (phC q1 q2))) := Lib.hid (below_row HP1.out.2.2 (by omega) _)
    generalize w1.setRow (w.heap.size + 1) (phC q1 q2) = wz at HZ HBZ
    go_wp2
    exact bodyPost_ret (v := .tuple #[.agg (phC q1 q2), u]) (results_cell_ph rfl _ _ (w.heap.size + 1) 23 (phC q1 q2) _ _ (by rfl) (by rfl) HZ.out Tryd.underlying23 rfl ph_load) rfl ⟨by rw [HU.out]; rfl, HBZ.out⟩
  | 2, _ =>
    have C := fence_any s e x a w0 hS0
    clear hS0 hk
    generalize Ph.run 2 s e x = q at C ⊢
    unfold phV at C ⊢
    go_enter Tryd.func8, Tryd.ntmps8
    go_wp2_with (go_at_call 18; refine pause ?_)
    unfold Paused
    rw [← HW.out]
    refine C.mono ?_
    rintro r w1 ⟨rfl, hb1⟩
    have HP1 := Lib.hid (HP.out.below hb1)
    obtain ⟨cR, hcR, hcs⟩ := HP1.out.2.1
    have HCR := Lib.hid hcR
    have HCS := Lib.hid hcs
    clear hcR hcs hb1
    obtain ⟨q1, q2, q3⟩ := q
    unfold phOut phV
    dsimp only
    obtain ⟨u, hu⟩ : ∃ u, u = erV a q3 := ⟨_, rfl⟩
    rw [← hu]
    have HU := Lib.hid hu
    clear hu
    try simp only [Act.put, List.getElem_toArray, List.getElem_cons_zero, List.getElem_cons_succ, List.setIfInBounds_toArray, List.set_cons_zero, List.set_cons_succ]
    go_wp2_with (with_reducible (show wpList _ _ _ (Oper.mk _ (Op.store 23 _ _) _ _ _ _ :: _) _ _); refine pause ?_)
    unfold Paused
    refine wpList_store_row rfl 23 (.tmp 6) (.tmp 28) rfl (w.heap.size + 1) (phC q1 q2) (by rfl) (by rfl) 23 cR HCR.out ph_load HCS.out (ph_one _ _) ?_
    have HZ : Hid (Blk (w1.setRow (w.heap.size + 1) (phC q1 q2)) (w.heap.size + 1) 23 (phC q1 q2)) := Lib.hid (HCR.out.row _)
    have HBZ : Hid (Below w.heap.size w (w1.setRow (w.heap.size + 1) (phC q1 q2))) := Lib.hid (below_row HP1.out.2.2 (by omega) _)
    generalize w1.setRow (w.heap.size + 1) (phC q1 q2) = wz at HZ HBZ
    go_wp2
    exact bodyPost_ret (v := .tuple #[.agg (phC q1 q2), u]) (results_cell_ph rfl _ _ (w.heap.size + 1) 23 (phC q1 q2) _ _ (by rfl) (by rfl) HZ.out Tryd.underlying23 rfl ph_load) rfl ⟨by rw [HU.out]; rfl, HBZ.out⟩
  | 3, _ =>
    have C := tomb_any s e x a w0 hS0
    clear hS0 hk
    generalize Ph.run 3 s e x = q at C ⊢
    unfold phV at C ⊢
    go_enter Tryd.func8, Tryd.ntmps8
    go_wp2_with (go_at_call 20; refine pause ?_)
    unfold Paused
    rw [← HW.out]
    refine C.mono ?_
    rintro r w1 ⟨rfl, hb1⟩
    have HP1 := Lib.hid (HP.out.below hb1)
    obtain ⟨cR, hcR, hcs⟩ := HP1.out.2.1
    have HCR := Lib.hid hcR
    have HCS := Lib.hid hcs
    clear hcR hcs hb1
    obtain ⟨q1, q2, q3⟩ := q
    unfold phOut phV
    dsimp only
    obtain ⟨u, hu⟩ : ∃ u, u = erV a q3 := ⟨_, rfl⟩
    rw [← hu]
    have HU := Lib.hid hu
    clear hu
    try simp only [Act.put, List.getElem_toArray, List.getElem_cons_zero, List.getElem_cons_succ, List.setIfInBounds_toArray, List.set_cons_zero, List.set_cons_succ]
    go_wp2_with (with_reducible (show wpList _ _ _ (Oper.mk _ (Op.store 23 _ _) _ _ _ _ :: _) _ _); refine pause ?_)
    unfold Paused
    refine wpList_store_row rfl 23 (.tmp 6) (.tmp 35) rfl (w.heap.size + 1) (phC q1 q2) (by rfl) (by rfl) 23 cR HCR.out ph_load HCS.out (ph_one _ _) ?_
    have HZ : Hid (Blk (w1.setRow (w.heap.size + 1) (phC q1 q2)) (w.heap.size + 1) 23 (phC q1 q2)) := Lib.hid (HCR.out.row _)
    have HBZ : Hid (Below w.heap.size w (w1.setRow (w.heap.size + 1) (phC q1 q2))) := Lib.hid (below_row HP1.out.2.2 (by omega) _)
    generalize w1.setRow (w.heap.size + 1) (phC q1 q2) = wz at HZ HBZ
    go_wp2
    exact bodyPost_ret (v := .tuple #[.agg (phC q1 q2), u]) (results_cell_ph rfl _ _ (w.heap.size + 1) 23 (phC q1 q2) _ _ (by rfl) (by rfl) HZ.out Tryd.underlying23 rfl ph_load) rfl ⟨by rw [HU.out]; rfl, HBZ.out⟩
  | 4, _ =>
    have C := drop_any s e x a w0 hS0
    clear hS0 hk
    generalize Ph.run 4 s e x = q at C ⊢
    unfold phV at C ⊢
    go_enter Tryd.func8, Tryd.ntmps8
    go_wp2_with (go_at_call 21; refine pause ?_)
    unfold Paused
    rw [← HW.out]
    refine C.mono ?_
    rintro r w1 ⟨rfl, hb1⟩
    have HP1 := Lib.hid (HP.out.below hb1)
    obtain ⟨cR, hcR, hcs⟩ := HP1.out.2.1
    have HCR := Lib.hid hcR
    have HCS := Lib.hid hcs
    clear hcR hcs hb1
    obtain ⟨q1, q2, q3⟩ := q
    unfold phOut phV
    dsimp only
    obtain ⟨u, hu⟩ : ∃ u, u = erV a q3 := ⟨_, rfl⟩
    rw [← hu]
    have HU := Lib.hid hu
    clear hu
    try simp only [Act.put, List.getElem_toArray, List.getElem_cons_zero, List.getElem_cons_succ, List.setIfInBounds_toArray, List.set_cons_zero, List.set_cons_succ]
    go_wp2_with (with_reducible (show wpList _ _ _ (Oper.mk _ (Op.store 23 _ _) _ _ _ _ :: _) _ _); refine pause ?_)
    unfold Paused
    refine wpList_store_row rfl 23 (.tmp 6) (.tmp 39) rfl (w.heap.size + 1) (phC q1 q2) (by rfl) (by rfl) 23 cR HCR.out ph_load HCS.out (ph_one _ _) ?_
    have HZ : Hid (Blk (w1.setRow (w.heap.size + 1) (phC q1 q2)) (w.heap.size + 1) 23 (phC q1 q2)) := Lib.hid (HCR.out.row _)
    have HBZ : Hid (Below w.heap.size w (w1.setRow (w.heap.size + 1) (phC q1 q2))) := Lib.hid (below_row HP1.out.2.2 (by omega) _)
    generalize w1.setRow (w.heap.size + 1) (phC q1 q2) = wz at HZ HBZ
    go_wp2
    exact bodyPost_ret (v := .tuple #[.agg (phC q1 q2), u]) (results_cell_ph rfl _ _ (w.heap.size + 1) 23 (phC q1 q2) _ _ (by rfl) (by rfl) HZ.out Tryd.underlying23 rfl ph_load) rfl ⟨by rw [HU.out]; rfl, HBZ.out⟩
end Go.Proofs.YtagplmlhpocbjaaDoor
