/- The events: Stage, Open, Fence, Tomb, Drop; all of them by number. -/
import Derived.Test.YtagplmlhpocbjaaDoorPh4
namespace Go.Proofs.YtagplmlhpocbjaaDoor
open Go Go.RowKit
theorem two_new (w : World) (t1 t2 : TypeId) (c1 c2 : Array Value) : ∃ W, W = (w.alloc (.cells c1 t1)).alloc (.cells c2 t2) ∧ Blk W w.heap.size t1 c1 ∧ Blk W (w.heap.size + 1) t2 c2 ∧ Below w.heap.size w W ∧ W.heap.size = w.heap.size + 1 + 1 := by
  refine ⟨_, rfl, (Blk.new w _ _).alloc _, ?_, ((Below.refl _ _).alloc (Nat.le_refl _) _).alloc (by simp) _, by simp⟩
  have h := Blk.new (w.alloc (.cells c1 t1)) t2 c2
  have e : (w.alloc (.cells c1 t1)).heap.size = w.heap.size + 1 := by simp
  rw [e] at h
  exact h
/-- what stands while an event is worked out -/
def PhE (w w' : World) (s e : Int) : Prop := Blk w' w.heap.size 23 (phC s e) ∧ (∃ c, Blk w' (w.heap.size + 1) 23 c ∧ c.size = 2) ∧ Below w.heap.size w w'
theorem PhE.below {w w1 w2 : World} {s e : Int} (h : PhE w w1 s e) (hb : Below w1.heap.size w1 w2) : PhE w w2 s e := by
  obtain ⟨h1, ⟨c, h3, hc⟩, h4⟩ := h
  exact ⟨h1.below hb h1.lt, ⟨c, h3.below hb h3.lt, hc⟩, h4.trans (hb.mono h4.size)⟩
set_option maxRecDepth 100000 in
theorem open_any (s e x : Int) (a : Nat → Addr) (w : World) (hS : Sents w a) :
    Calls Tryd.prog 19 #[phV s e, .int .i64 x] w fun r w' => r = .returned (phOut a (Ph.run 1 s e x)) ∧ Below w.heap.size w w' := by
  obtain ⟨w0, hw0, x1, x2, hb0, hz⟩ := two_new w 23 23 (phC s e) (phC 0 0)
  have HP : Hid (PhE w w0 s e) := Lib.hid ⟨x1, ⟨_, x2, rfl⟩, hb0⟩
  have hb1 : Below w0.heap.size w0 (w0.alloc (.cells #[.int .i64 0, .int .i64 1, .int .i64 2, .int .i64 3] 3)) := (Below.refl _ _).alloc (Nat.le_refl _) _
  have HB1 := Lib.hid hb1
  have hr := rdi_new w0 [0, 1, 2, 3] 3
  rw [hz] at hr
  have CT := turn_any s e 2 x (decide (e < x)) _ [0, 1, 2, 3] a (w0.alloc (.cells #[.int .i64 0, .int .i64 1, .int .i64 2, .int .i64 3] 3)) hr (by decide) ((hS.below hb0 (Nat.le_refl _)).below hb1 (Nat.le_refl _))
  have HW := Lib.hid hw0
  clear hw0 x1 x2 hb0 hb1 hr hz hS
  show Calls _ _ _ w fun r w' => r = .returned (phOut a (Ph.turn s e 2 x (decide (e < x)) [0, 1, 2, 3])) ∧ Below w.heap.size w w'
  unfold phV at CT ⊢
  generalize Ph.turn s e 2 x (decide (e < x)) [0, 1, 2, 3] = q at CT ⊢
  go_enter Tryd.func19, Tryd.ntmps19
  go_wp2_with (go_at_call 26; refine pause ?_)
  unfold Paused
  rw [← HW.out]
  refine CT.mono ?_
  rintro r w1 ⟨rfl, hb1⟩
  have HP1 := Lib.hid (HP.out.below (HB1.out.trans (hb1.mono HB1.out.size)))
  obtain ⟨cR, hcR, hcs⟩ := HP1.out.2.1
  have HCR := Lib.hid hcR
  have HCS := Lib.hid hcs
  clear hcR hcs hb1
  obtain ⟨q1, q2, q3⟩ := q
  unfold phOut phV
  dsimp only
  obtain ⟨u, hu⟩ : ∃ u, u = erV a q3 := ⟨_, rfl⟩
  rw [← hu]
  have HU := Lib.hid hu
  clear hu
  try simp only [Act.put, List.getElem_toArray, List.getElem_cons_zero, List.getElem_cons_succ, List.setIfInBounds_toArray, List.set_cons_zero, List.set_cons_succ]
  go_wp2_with (with_reducible (show wpList _ _ _ (Oper.mk _ (Op.store 23 _ _) _ _ _ _ :: _) _ _); refine pause ?_)
  unfold Paused
  refine wpList_store_row rfl 23 (.tmp 4) (.tmp 15) rfl (w.heap.size + 1) (phC q1 q2) (by rfl) (by rfl) 23 cR HCR.out ph_load HCS.out (ph_one _ _) ?_
  have HZ : Hid (Blk (w1.setRow (w.heap.size + 1) (phC q1 q2)) (w.heap.size + 1) 23 (phC q1 q2)) := Lib.hid (HCR.out.row _)
  have HBZ : Hid (Below w.heap.size w (w1.setRow (w.heap.size + 1) (phC q1 q2))) := Lib.hid (below_row HP1.out.2.2 (by omega) _)
  generalize w1.setRow (w.heap.size + 1) (phC q1 q2) = wz at HZ HBZ
  go_wp2
  exact bodyPost_ret (v := .tuple #[.agg (phC q1 q2), u]) (results_cell_ph rfl _ _ (w.heap.size + 1) 23 (phC q1 q2) _ _ (by rfl) (by rfl) HZ.out Tryd.underlying23 rfl ph_load) rfl ⟨by rw [HU.out]; rfl, HBZ.out⟩
set_option maxRecDepth 100000 in
theorem fence_any (s e x : Int) (a : Nat → Addr) (w : World) (hS : Sents w a) :
    Calls Tryd.prog 18 #[phV s e, .int .i64 x] w fun r w' => r = .returned (phOut a (Ph.run 2 s e x)) ∧ Below w.heap.size w w' := by
  obtain ⟨w0, hw0, x1, x2, hb0, hz⟩ := two_new w 23 23 (phC s e) (phC 0 0)
  have HP : Hid (PhE w w0 s e) := Lib.hid ⟨x1, ⟨_, x2, rfl⟩, hb0⟩
  have hb1 : Below w0.heap.size w0 (w0.alloc (.cells #[.int .i64 2] 3)) := (Below.refl _ _).alloc (Nat.le_refl _) _
  have HB1 := Lib.hid hb1
  have hr := rdi_new w0 [2] 3
  rw [hz] at hr
  have CT := turn_any s e 3 x (decide (x = e)) _ [2] a (w0.alloc (.cells #[.int .i64 2] 3)) hr (by decide) ((hS.below hb0 (Nat.le_refl _)).below hb1 (Nat.le_refl _))
  have HW := Lib.hid hw0
  clear hw0 x1 x2 hb0 hb1 hr hz hS
  show Calls _ _ _ w fun r w' => r = .returned (phOut a (Ph.turn s e 3 x (decide (x = e)) [2])) ∧ Below w.heap.size w w'
  unfold phV at CT ⊢
  generalize Ph.turn s e 3 x (decide (x = e)) [2] = q at CT ⊢
  go_enter Tryd.func18, Tryd.ntmps18
  go_wp2_with (go_at_call 26; refine pause ?_)
  unfold Paused
  rw [← HW.out]
  refine CT.mono ?_
  rintro r w1 ⟨rfl, hb1⟩
  have HP1 := Lib.hid (HP.out.below (HB1.out.trans (hb1.mono HB1.out.size)))
  obtain ⟨cR, hcR, hcs⟩ := HP1.out.2.1
  have HCR := Lib.hid hcR
  have HCS := Lib.hid hcs
  clear hcR hcs hb1
  obtain ⟨q1, q2, q3⟩ := q
  unfold phOut phV
  dsimp only
  obtain ⟨u, hu⟩ : ∃ u, u = erV a q3 := ⟨_, rfl⟩
  rw [← hu]
  have HU := Lib.hid hu
  clear hu
  try simp only [Act.put, List.getElem_toArray, List.getElem_cons_zero, List.getElem_cons_succ, List.setIfInBounds_toArray, List.set_cons_zero, List.set_cons_succ]
  go_wp2_with (with_reducible (show wpList _ _ _ (Oper.mk _ (Op.store 23 _ _) _ _ _ _ :: _) _ _); refine pause ?_)
  unfold Paused
  refine wpList_store_row rfl 23 (.tmp 4) (.tmp 15) rfl (w.heap.size + 1) (phC q1 q2) (by rfl) (by rfl) 23 cR HCR.out ph_load HCS.out (ph_one _ _) ?_
  have HZ : Hid (Blk (w1.setRow (w.heap.size + 1) (phC q1 q2)) (w.heap.size + 1) 23 (phC q1 q2)) := Lib.hid (HCR.out.row _)
  have HBZ : Hid (Below w.heap.size w (w1.setRow (w.heap.size + 1) (phC q1 q2))) := Lib.hid (below_row HP1.out.2.2 (by omega) _)
  generalize w1.setRow (w.heap.size + 1) (phC q1 q2) = wz at HZ HBZ
  go_wp2
  exact bodyPost_ret (v := .tuple #[.agg (phC q1 q2), u]) (results_cell_ph rfl _ _ (w.heap.size + 1) 23 (phC q1 q2) _ _ (by rfl) (by rfl) HZ.out Tryd.underlying23 rfl ph_load) rfl ⟨by rw [HU.out]; rfl, HBZ.out⟩
set_option maxRecDepth 100000 in
theorem tomb_any (s e x : Int) (a : Nat → Addr) (w : World) (hS : Sents w a) :
    Calls Tryd.prog 20 #[phV s e, .int .i64 x] w fun r w' => r = .returned (phOut a (Ph.run 3 s e x)) ∧ Below w.heap.size w w' := by
  obtain ⟨w0, hw0, x1, x2, hb0, hz⟩ := two_new w 23 23 (phC s e) (phC 0 0)
  have HP : Hid (PhE w w0 s e) := Lib.hid ⟨x1, ⟨_, x2, rfl⟩, hb0⟩
  have hb1 : Below w0.heap.size w0 (w0.alloc (.cells #[.int .i64 1, .int .i64 2, .int .i64 3, .int .i64 4] 3)) := (Below.refl _ _).alloc (Nat.le_refl _) _
  have HB1 := Lib.hid hb1
  have hr := rdi_new w0 [1, 2, 3, 4] 3
  rw [hz] at hr
  have CT := turn_any s e 4 x (decide (e < x)) _ [1, 2, 3, 4] a (w0.alloc (.cells #[.int .i64 1, .int .i64 2, .int .i64 3, .int .i64 4] 3)) hr (by decide) ((hS.below hb0 (Nat.le_refl _)).below hb1 (Nat.le_refl _))
  have HW := Lib.hid hw0
  clear hw0 x1 x2 hb0 hb1 hr hz hS
  show Calls _ _ _ w fun r w' => r = .returned (phOut a (Ph.turn s e 4 x (decide (e < x)) [1, 2, 3, 4])) ∧ Below w.heap.size w w'
  unfold phV at CT ⊢
  generalize Ph.turn s e 4 x (decide (e < x)) [1, 2, 3, 4] = q at CT ⊢
  go_enter Tryd.func20, Tryd.ntmps20
  go_wp2_with (go_at_call 26; refine pause ?_)
  unfold Paused
  rw [← HW.out]
  refine CT.mono ?_
  rintro r w1 ⟨rfl, hb1⟩
  have HP1 := Lib.hid (HP.out.below (HB1.out.trans (hb1.mono HB1.out.size)))
  obtain ⟨cR, hcR, hcs⟩ := HP1.out.2.1
  have HCR := Lib.hid hcR
  have HCS := Lib.hid hcs
  clear hcR hcs hb1
  obtain ⟨q1, q2, q3⟩ := q
  unfold phOut phV
  dsimp only
  obtain ⟨u, hu⟩ : ∃ u, u = erV a q3 := ⟨_, rfl⟩
  rw [← hu]
  have HU := Lib.hid hu
  clear hu
  try simp only [Act.put, List.getElem_toArray, List.getElem_cons_zero, List.getElem_cons_succ, List.setIfInBounds_toArray, List.set_cons_zero, List.set_cons_succ]
  go_wp2_with (with_reducible (show wpList _ _ _ (Oper.mk _ (Op.store 23 _ _) _ _ _ _ :: _) _ _); refine pause ?_)
  unfold Paused
  refine wpList_store_row rfl 23 (.tmp 4) (.tmp 15) rfl (w.heap.size + 1) (phC q1 q2) (by rfl) (by rfl) 23 cR HCR.out ph_load HCS.out (ph_one _ _) ?_
  have HZ : Hid (Blk (w1.setRow (w.heap.size + 1) (phC q1 q2)) (w.heap.size + 1) 23 (phC q1 q2)) := Lib.hid (HCR.out.row _)
  have HBZ : Hid (Below w.heap.size w (w1.setRow (w.heap.size + 1) (phC q1 q2))) := Lib.hid (below_row HP1.out.2.2 (by omega) _)
  generalize w1.setRow (w.heap.size + 1) (phC q1 q2) = wz at HZ HBZ
  go_wp2
  exact bodyPost_ret (v := .tuple #[.agg (phC q1 q2), u]) (results_cell_ph rfl _ _ (w.heap.size + 1) 23 (phC q1 q2) _ _ (by rfl) (by rfl) HZ.out Tryd.underlying23 rfl ph_load) rfl ⟨by rw [HU.out]; rfl, HBZ.out⟩
set_option maxRecDepth 100000 in
theorem drop_any (s e x : Int) (a : Nat → Addr) (w : World) (hS : Sents w a) :
    Calls Tryd.prog 21 #[phV s e] w fun r w' => r = .returned (phOut a (Ph.run 4 s e x)) ∧ Below w.heap.size w w' := by
  obtain ⟨w0, hw0, x1, x2, hb0, hz⟩ := two_new w 23 23 (phC s e) (phC 0 0)
  have HP : Hid (PhE w w0 s e) := Lib.hid ⟨x1, ⟨_, x2, rfl⟩, hb0⟩
  have hb1 : Below w0.heap.size w0 (w0.alloc (.cells #[.int .i64 4] 3)) := (Below.refl _ _).alloc (Nat.le_refl _) _
  have HB1 := Lib.hid hb1
  have hr := rdi_new w0 [4] 3
  rw [hz] at hr
  have CT := move_any s e 5 e true _ [4] a (w0.alloc (.cells #[.int .i64 4] 3)) hr (by decide) ((hS.below hb0 (Nat.le_refl _)).below hb1 (Nat.le_refl _))
  have HW := Lib.hid hw0
  clear hw0 x1 x2 hb0 hb1 hr hz hS
  show Calls _ _ _ w fun r w' => r = .returned (phOut a (Ph.move s e 5 e true [4])) ∧ Below w.heap.size w w'
  clear x
  unfold phV at CT ⊢
  generalize Ph.move s e 5 e true [4] = q at CT ⊢
  go_enter Tryd.func21, Tryd.ntmps21
  go_wp2_with (go_at_call 27; refine pause ?_)
  unfold Paused
  rw [← HW.out]
  refine CT.mono ?_
  rintro r w1 ⟨rfl, hb1⟩
  have HP1 := Lib.hid (HP.out.below (HB1.out.trans (hb1.mono HB1.out.size)))
  obtain ⟨cR, hcR, hcs⟩ := HP1.out.2.1
  have HCR := Lib.hid hcR
  have HCS := Lib.hid hcs
  clear hcR hcs hb1
  obtain ⟨q1, q2, q3⟩ := q
  unfold phOut phV
  dsimp only
  obtain ⟨u, hu⟩ : ∃ u, u = erV a q3 := ⟨_, rfl⟩
  rw [← hu]
  have HU := Lib.hid hu
  clear hu
  try simp only [Act.put, List.getElem_toArray, List.getElem_cons_zero, List.getElem_cons_succ, List.setIfInBounds_toArray, List.set_cons_zero, List.set_cons_succ]
  go_wp2_with (with_reducible (show wpList _ _ _ (Oper.mk _ (Op.store 23 _ _) _ _ _ _ :: _) _ _); refine pause ?_)
  unfold Paused
  refine wpList_store_row rfl 23 (.tmp 2) (.tmp 10) rfl (w.heap.size + 1) (phC q1 q2) (by rfl) (by rfl) 23 cR HCR.out ph_load HCS.out (ph_one _ _) ?_
  have HZ : Hid (Blk (w1.setRow (w.heap.size + 1) (phC q1 q2)) (w.heap.size + 1) 23 (phC q1 q2)) := Lib.hid (HCR.out.row _)
  have HBZ : Hid (Below w.heap.size w (w1.setRow (w.heap.size + 1) (phC q1 q2))) := Lib.hid (below_row HP1.out.2.2 (by omega) _)
  generalize w1.setRow (w.heap.size + 1) (phC q1 q2) = wz at HZ HBZ
  go_wp2
  exact bodyPost_ret (v := .tuple #[.agg (phC q1 q2), u]) (results_cell_ph rfl _ _ (w.heap.size + 1) 23 (phC q1 q2) _ _ (by rfl) (by rfl) HZ.out Tryd.underlying23 rfl ph_load) rfl ⟨by rw [HU.out]; rfl, HBZ.out⟩
set_option maxRecDepth 100000 in
theorem stage_any (s e x : Int) (a : Nat → Addr) (w : World) (hS : Sents w a) :
    Calls Tryd.prog 17 #[phV s e, .int .i64 x] w fun r w' => r = .returned (phOut a (Ph.run 0 s e x)) ∧ Below w.heap.size w w' := by
  show Calls _ _ _ w fun r w' => r = .returned (phOut a (Ph.turn s e 1 x (decide (e < x) || (decide (x = e) && [0, 4, 5].contains s)) [0, 1, 3, 4, 5])) ∧ Below w.heap.size w w'
  obtain ⟨w0, hw0, x1, x2, hb0, hz⟩ := two_new w 23 23 (phC s e) (phC 0 0)
  have HP : Hid (PhE w w0 s e) := Lib.hid ⟨x1, ⟨_, x2, rfl⟩, hb0⟩
  have CT : ∀ W, PhE w W s e → Calls Tryd.prog 26 #[phV s e, phV 1 x, .bool (decide (e < x) || (decide (x = e) && [0, 4, 5].contains s)), .slice (some ⟨W.heap.size, 0, none⟩) 5 5] (W.alloc (.cells #[.int .i64 0, .int .i64 1, .int .i64 3, .int .i64 4, .int .i64 5] 3)) fun r w' => r = .returned (phOut a (Ph.turn s e 1 x (decide (e < x) || (decide (x = e) && [0, 4, 5].contains s)) [0, 1, 3, 4, 5])) ∧ PhE w w' s e := fun W hW => by
    have hb1 : Below W.heap.size W (W.alloc (.cells #[.int .i64 0, .int .i64 1, .int .i64 3, .int .i64 4, .int .i64 5] 3)) := (Below.refl _ _).alloc (Nat.le_refl _) _
    refine (turn_any s e 1 x _ _ [0, 1, 3, 4, 5] a _ (rdi_new W [0, 1, 3, 4, 5] 3) (by decide) ((hS.below hW.2.2 (Nat.le_refl _)).below hb1 (Nat.le_refl _))).mono ?_
    rintro r w1 ⟨rfl, hb⟩
    exact ⟨rfl, hW.below (hb1.trans (hb.mono hb1.size))⟩
  have HCT := Lib.hid CT
  have CI := in_any s e _ [0, 4, 5] _ (rdi_new w0 [0, 4, 5] 3) (by decide)
  have HBI : Hid (Below w0.heap.size w0 (w0.alloc (.cells #[.int .i64 0, .int .i64 4, .int .i64 5] 3))) := Lib.hid ((Below.refl _ _).alloc (Nat.le_refl _) _)
  have HW := Lib.hid hw0
  have HSZ := Lib.hid hz
  rw [hz] at CI
  clear hw0 x1 x2 hb0 hz hS CT
  unfold phV at HCT CI ⊢
  by_cases h1 : e < x
  · have ht : (decide (e < x) || (decide (x = e) && [0, 4, 5].contains s)) = true := by simp [h1]
    rw [ht] at HCT ⊢
    generalize Ph.turn s e 1 x true [0, 1, 3, 4, 5] = q at HCT ⊢
    have C0 := HCT.out w0 HP.out
    rw [HSZ.out] at C0
    clear ht CI HBI HCT
    go_enter Tryd.func17, Tryd.ntmps17
    go_wp2_with (go_at_call 26; refine pause ?_)
    unfold Paused
    rw [← HW.out]
    refine C0.mono ?_
    rintro r w1 ⟨rfl, hp1⟩
    have HP1 := Lib.hid hp1
    clear hp1 C0
    have HCRX := HP1.out.2.1
    obtain ⟨cR, hcR, hcs⟩ := HCRX
    have HCR := Lib.hid hcR
    have HCS := Lib.hid hcs
    clear hcR hcs
    obtain ⟨q1, q2, q3⟩ := q
    unfold phOut phV
    dsimp only
    obtain ⟨u, hu⟩ : ∃ u, u = erV a q3 := ⟨_, rfl⟩
    rw [← hu]
    have HU := Lib.hid hu
    clear hu
    try simp only [Act.put, List.getElem_toArray, List.getElem_cons_zero, List.getElem_cons_succ, List.setIfInBounds_toArray, List.set_cons_zero, List.set_cons_succ]
    go_wp2_with (with_reducible (show wpList _ _ _ (Oper.mk _ (Op.store 23 _ _) _ _ _ _ :: _) _ _); refine pause ?_)
    unfold Paused
    refine wpList_store_row rfl 23 (.tmp 4) (.tmp 28) rfl (w.heap.size + 1) (phC q1 q2) (by rfl) (by rfl) 23 cR HCR.out ph_load HCS.out (ph_one _ _) ?_
    have HZ : Hid (Blk (w1.setRow (w.heap.size + 1) (phC q1 q2)) (w.heap.size + 1) 23 (phC q1 q2)) := Lib.hid (HCR.out.row _)
    have HBZ : Hid (Below w.heap.size w (w1.setRow (w.heap.size + 1) (phC q1 q2))) := Lib.hid (below_row HP1.out.2.2 (by omega) _)
    generalize w1.setRow (w.heap.size + 1) (phC q1 q2) = wz at HZ HBZ
    go_wp2
    exact bodyPost_ret (v := .tuple #[.agg (phC q1 q2), u]) (results_cell_ph rfl _ _ (w.heap.size + 1) 23 (phC q1 q2) _ _ (by rfl) (by rfl) HZ.out Tryd.underlying23 rfl ph_load) rfl ⟨by rw [HU.out]; rfl, HBZ.out⟩
  · by_cases h2 : x = e
    · have ht : (decide (e < x) || (decide (x = e) && [0, 4, 5].contains s)) = [0, 4, 5].contains s := by simp [h2]
      rw [ht] at HCT ⊢
      clear ht
      generalize [0, 4, 5].contains s = β at HCT CI ⊢
      generalize Ph.turn s e 1 x β [0, 1, 3, 4, 5] = q at HCT ⊢
      subst h2
      go_enter Tryd.func17, Tryd.ntmps17
      go_wp2_with (go_at_call 25; refine pause ?_)
      unfold Paused
      rw [← HW.out]
      refine CI.mono ?_
      rintro r w1 ⟨rfl, hb1⟩
      have hp1 := HP.out.below (HBI.out.trans (hb1.mono HBI.out.size))
      have C0 := HCT.out w1 hp1
      have HPA := Lib.hid hp1
      have HX1 : Hid (Blk w1 w.heap.size 23 (phC s x)) := Lib.hid hp1.1
      clear hb1 CI HCT hp1
      go_wp2_with (with_reducible (show wpList _ _ _ (Oper.mk _ (Op.load 23 _) _ _ _ _ :: _) _ _); refine pause ?_)
      unfold Paused
      refine wpList_row_w rfl 23 (.tmp 2) rfl w.heap.size (by rfl) 23 (phC s x) _ HX1.out Tryd.underlying23 rfl ph_load ?_
      try simp only [Act.put, List.setIfInBounds_toArray, List.set_cons_zero, List.set_cons_succ]
      go_wp2_with (go_at_call 26; refine pause ?_)
      unfold Paused
      refine C0.mono ?_
      clear HPA HX1 C0
      rintro r w1 ⟨rfl, hp1⟩
      have HP1 := Lib.hid hp1
      clear hp1
      have HCRX := HP1.out.2.1
      obtain ⟨cR, hcR, hcs⟩ := HCRX
      have HCR := Lib.hid hcR
      have HCS := Lib.hid hcs
      clear hcR hcs
      obtain ⟨q1, q2, q3⟩ := q
      unfold phOut phV
      dsimp only
      obtain ⟨u, hu⟩ : ∃ u, u = erV a q3 := ⟨_, rfl⟩
      rw [← hu]
      have HU := Lib.hid hu
      clear hu
      try simp only [Act.put, List.getElem_toArray, List.getElem_cons_zero, List.getElem_cons_succ, List.setIfInBounds_toArray, List.set_cons_zero, List.set_cons_succ]
      go_wp2_with (with_reducible (show wpList _ _ _ (Oper.mk _ (Op.store 23 _ _) _ _ _ _ :: _) _ _); refine pause ?_)
      unfold Paused
      refine wpList_store_row rfl 23 (.tmp 4) (.tmp 28) rfl (w.heap.size + 1) (phC q1 q2) (by rfl) (by rfl) 23 cR HCR.out ph_load HCS.out (ph_one _ _) ?_
      have HZ : Hid (Blk (w1.setRow (w.heap.size + 1) (phC q1 q2)) (w.heap.size + 1) 23 (phC q1 q2)) := Lib.hid (HCR.out.row _)
      have HBZ : Hid (Below w.heap.size w (w1.setRow (w.heap.size + 1) (phC q1 q2))) := Lib.hid (below_row HP1.out.2.2 (by omega) _)
      generalize w1.setRow (w.heap.size + 1) (phC q1 q2) = wz at HZ HBZ
      go_wp2
      exact bodyPost_ret (v := .tuple #[.agg (phC q1 q2), u]) (results_cell_ph rfl _ _ (w.heap.size + 1) 23 (phC q1 q2) _ _ (by rfl) (by rfl) HZ.out Tryd.underlying23 rfl ph_load) rfl ⟨by rw [HU.out]; rfl, HBZ.out⟩
    · have ht : (decide (e < x) || (decide (x = e) && [0, 4, 5].contains s)) = false := by simp [h1, h2]
      have g2 : (x == e) = false := by simpa using h2
      rw [ht] at HCT ⊢
      generalize Ph.turn s e 1 x false [0, 1, 3, 4, 5] = q at HCT ⊢
      have C0 := HCT.out w0 HP.out
      rw [HSZ.out] at C0
      clear ht CI HBI HCT
      go_enter Tryd.func17, Tryd.ntmps17
      go_wp2_with (go_at_call 26; refine pause ?_)
      unfold Paused
      rw [← HW.out]
      refine C0.mono ?_
      rintro r w1 ⟨rfl, hp1⟩
      have HP1 := Lib.hid hp1
      clear hp1 C0
      have HCRX := HP1.out.2.1
      obtain ⟨cR, hcR, hcs⟩ := HCRX
      have HCR := Lib.hid hcR
      have HCS := Lib.hid hcs
      clear hcR hcs
      obtain ⟨q1, q2, q3⟩ := q
      unfold phOut phV
      dsimp only
      obtain ⟨u, hu⟩ : ∃ u, u = erV a q3 := ⟨_, rfl⟩
      rw [← hu]
      have HU := Lib.hid hu
      clear hu
      try simp only [Act.put, List.getElem_toArray, List.getElem_cons_zero, List.getElem_cons_succ, List.setIfInBounds_toArray, List.set_cons_zero, List.set_cons_succ]
      go_wp2_with (with_reducible (show wpList _ _ _ (Oper.mk _ (Op.store 23 _ _) _ _ _ _ :: _) _ _); refine pause ?_)
      unfold Paused
      refine wpList_store_row rfl 23 (.tmp 4) (.tmp 28) rfl (w.heap.size + 1) (phC q1 q2) (by rfl) (by rfl) 23 cR HCR.out ph_load HCS.out (ph_one _ _) ?_
      have HZ : Hid (Blk (w1.setRow (w.heap.size + 1) (phC q1 q2)) (w.heap.size + 1) 23 (phC q1 q2)) := Lib.hid (HCR.out.row _)
      have HBZ : Hid (Below w.heap.size w (w1.setRow (w.heap.size + 1) (phC q1 q2))) := Lib.hid (below_row HP1.out.2.2 (by omega) _)
      generalize w1.setRow (w.heap.size + 1) (phC q1 q2) = wz at HZ HBZ
      go_wp2
      exact bodyPost_ret (v := .tuple #[.agg (phC q1 q2), u]) (results_cell_ph rfl _ _ (w.heap.size + 1) 23 (phC q1 q2) _ _ (by rfl) (by rfl) HZ.out Tryd.underlying23 rfl ph_load) rfl ⟨by rw [HU.out]; rfl, HBZ.out⟩
end Go.Proofs.YtagplmlhpocbjaaDoor
