/- turn: an event with an epoch. -/
import Derived.Test.YtagplmlhpocbjaaDoorPh3
namespace Go.Proofs.YtagplmlhpocbjaaDoor
open Go Go.RowKit
set_option maxRecDepth 100000 in
theorem turn_any (s e s' e' : Int) (t : Bool) (v : Value) (xs : List Int) (a : Nat → Addr) (w : World) (hx : RdI w v xs) (hn : xs.length ≤ 100000) (hS : Sents w a) :
    Calls Tryd.prog 26 #[phV s e, phV s' e', .bool t, v] w fun r w' => r = .returned (phOut a (Ph.turn s e s' e' t xs)) ∧ Below w.heap.size w w' := by
  obtain ⟨w0, hw0, x1, x2, x3, hb0⟩ := three_new w 23 23 23 (phC s e) (phC s' e') (phC 0 0)
  have HP : Hid (PhS w w0 s e s' e') := Lib.hid ⟨x1, x2, ⟨_, x3, rfl⟩, hb0⟩
  have HT : Hid (Ph.turn s e s' e' t xs = if e' < 1 ∨ 1099511627776 < e' then (s, e, 1) else Ph.move s e s' e' t xs) := Lib.hid rfl
  have CM := move_any s e s' e' t v xs a w0 (hx.below hb0 (Nat.le_refl _)) hn (hS.below hb0 (Nat.le_refl _))
  have HG : Hid (w0.cell? ⟨0, 0, none⟩ = some (ev (a 0))) := Lib.hid ((hS.below hb0 (Nat.le_refl _)) 0 (by omega)).var
  have hv : ∃ A c, v = .slice A xs.length c := by obtain ⟨A, c, rfl, _⟩ := hx; exact ⟨A, c, rfl⟩
  have HW := Lib.hid hw0
  obtain ⟨cR, hcR, hcs⟩ := HP.out.2.2.1
  have HCR := Lib.hid hcR
  have HCS := Lib.hid hcs
  clear hcR hcs
  have HGL : Hid (0 < w.heap.size) := Lib.hid ((hS 0 (by omega)).lt)
  clear hw0 x1 x2 x3 hb0 hx hS hn
  generalize Ph.turn s e s' e' t xs = q0 at HT ⊢
  generalize Ph.move s e s' e' t xs = q at HT CM
  obtain ⟨A, c, rfl⟩ := hv
  generalize xs.length = n at CM ⊢
  unfold phV at CM ⊢
  by_cases h1 : e' < 1
  · have HQ : Hid (q0 = (s, e, 1)) := Lib.hid (by rw [HT.out, if_pos (Or.inl h1)])
    go_enter Tryd.func26, Tryd.ntmps26
    go_wp2
    rw [← HW.out]
    have HCC : Hid (Blk w0.drew w.heap.size 23 (phC s e) ∧ w0.drew.cell? ⟨0, 0, none⟩ = some (ev (a 0))) := Lib.hid ⟨HP.out.1.drew, HG.out⟩
    have HGN : Hid (0 < w.heap.size) := Lib.hid HGL.out
    refine wp_region_held (S := fun w' => Blk w' w.heap.size 23 (phC s e) ∧ w'.cell? ⟨0, 0, none⟩ = some (ev (a 0))) (by kernel_rfl) ?_
    change wpAnyH _ _ _ _ _ _ _ _ w0.drew
    refine wpAnyH_take (i := 0) (v := .agg (phC s e)) rfl (by kernel_rfl) (by kernel_rfl) (by kernel_rfl) (fun _ _ _ h => h) (takes_row 23 (.tmp 4) rfl (by rfl) w.heap.size (by rfl) 23 (phC s e) _ (fun w' hS => hS.1) (by first | exact Tryd.underlying23 | kernel_rfl) (by rfl) ph_load) HCC.out ?_
    try simp only [Act.put, List.getElem_toArray, List.getElem_cons_zero, List.setIfInBounds_toArray, List.set_cons_zero, List.set_cons_succ]
    refine wpAnyH_take (i := 1) (v := ?_) rfl (by kernel_rfl) (by kernel_rfl) (by kernel_rfl) (fun _ _ _ h => h) (Or.inl ⟨by rfl, ?_⟩) HCC.out ?_
    rotate_left
    · intro w' hS; have h0 := hS.2; go_simp; with_reducible rfl
    try simp only [Act.put, List.getElem_toArray, List.getElem_cons_zero, List.getElem_cons_succ, List.setIfInBounds_toArray, List.set_cons_zero, List.set_cons_succ]
    refine all_one (i := 2) (by kernel_rfl) rfl (by rfl) (fun K hK => ?_)
    refine wp_store_row 23 (.tmp 8) (.tmp 18) (by rfl) (w.heap.size + 1 + 1) (phC s e) (by rfl) (by rfl) 23 cR HCR.out.drew ph_load HCS.out (ph_one _ _) ?_
    have HZ : Hid (Blk (w0.drew.setRow (w.heap.size + 1 + 1) (phC s e)) (w.heap.size + 1 + 1) 23 (phC s e)) := Lib.hid (HCR.out.drew.row _)
    have HBZ : Hid (Below w.heap.size w (w0.drew.setRow (w.heap.size + 1 + 1) (phC s e))) := Lib.hid (below_row (below_drewN HP.out.2.2.2 1) (by omega) _)
    have HCZ : Hid (Blk (w0.drew.setRow (w.heap.size + 1 + 1) (phC s e)) w.heap.size 23 (phC s e) ∧ (w0.drew.setRow (w.heap.size + 1 + 1) (phC s e)).cell? ⟨0, 0, none⟩ = some (ev (a 0))) := Lib.hid ⟨HCC.out.1.farRow (by omega) _, (cell_setRow_other w0.drew _ _ _ (show 0 ≠ w.heap.size + 1 + 1 by have := HGN.out; omega)).trans HCC.out.2⟩
    refine hK _ _ HCZ.out ?_
    generalize w0.drew.setRow (w.heap.size + 1 + 1) (phC s e) = wz at HZ HBZ HCZ
    try simp only [Act.put, List.getElem_toArray, List.getElem_cons_zero, List.getElem_cons_succ]
    refine wpAnyH_take (i := 3) (v := ?_) rfl (by kernel_rfl) (by kernel_rfl) (by kernel_rfl) (fun _ _ _ h => h) (Or.inl ⟨by rfl, ?_⟩) HCZ.out ?_
    rotate_left
    · intro w' hS; go_simp; with_reducible rfl
    try simp only [Act.put, List.getElem_toArray, List.getElem_cons_zero, List.getElem_cons_succ, List.setIfInBounds_toArray, List.set_cons_zero, List.set_cons_succ]
    refine wpAnyH_done (by kernel_rfl) ?_ _
    go_wp2
    exact bodyPost_ret (v := .tuple #[.agg (phC s e), ev (a 0)]) (results_cell_ph rfl _ _ (w.heap.size + 1 + 1) 23 (phC s e) _ _ (by rfl) (by rfl) HZ.out Tryd.underlying23 rfl ph_load) rfl ⟨by rw [HQ.out]; rfl, HBZ.out⟩
  · by_cases h2 : 1099511627776 < e'
    · have HQ : Hid (q0 = (s, e, 1)) := Lib.hid (by rw [HT.out, if_pos (Or.inr h2)])
      go_enter Tryd.func26, Tryd.ntmps26
      go_wp2
      rw [← HW.out]
      have HCC : Hid (Blk w0.drew w.heap.size 23 (phC s e) ∧ w0.drew.cell? ⟨0, 0, none⟩ = some (ev (a 0))) := Lib.hid ⟨HP.out.1.drew, HG.out⟩
      have HGN : Hid (0 < w.heap.size) := Lib.hid HGL.out
      refine wp_region_held (S := fun w' => Blk w' w.heap.size 23 (phC s e) ∧ w'.cell? ⟨0, 0, none⟩ = some (ev (a 0))) (by kernel_rfl) ?_
      change wpAnyH _ _ _ _ _ _ _ _ w0.drew
      refine wpAnyH_take (i := 0) (v := .agg (phC s e)) rfl (by kernel_rfl) (by kernel_rfl) (by kernel_rfl) (fun _ _ _ h => h) (takes_row 23 (.tmp 4) rfl (by rfl) w.heap.size (by rfl) 23 (phC s e) _ (fun w' hS => hS.1) (by first | exact Tryd.underlying23 | kernel_rfl) (by rfl) ph_load) HCC.out ?_
      try simp only [Act.put, List.getElem_toArray, List.getElem_cons_zero, List.setIfInBounds_toArray, List.set_cons_zero, List.set_cons_succ]
      refine wpAnyH_take (i := 1) (v := ?_) rfl (by kernel_rfl) (by kernel_rfl) (by kernel_rfl) (fun _ _ _ h => h) (Or.inl ⟨by rfl, ?_⟩) HCC.out ?_
      rotate_left
      · intro w' hS; have h0 := hS.2; go_simp; with_reducible rfl
      try simp only [Act.put, List.getElem_toArray, List.getElem_cons_zero, List.getElem_cons_succ, List.setIfInBounds_toArray, List.set_cons_zero, List.set_cons_succ]
      refine all_one (i := 2) (by kernel_rfl) rfl (by rfl) (fun K hK => ?_)
      refine wp_store_row 23 (.tmp 8) (.tmp 18) (by rfl) (w.heap.size + 1 + 1) (phC s e) (by rfl) (by rfl) 23 cR HCR.out.drew ph_load HCS.out (ph_one _ _) ?_
      have HZ : Hid (Blk (w0.drew.setRow (w.heap.size + 1 + 1) (phC s e)) (w.heap.size + 1 + 1) 23 (phC s e)) := Lib.hid (HCR.out.drew.row _)
      have HBZ : Hid (Below w.heap.size w (w0.drew.setRow (w.heap.size + 1 + 1) (phC s e))) := Lib.hid (below_row (below_drewN HP.out.2.2.2 1) (by omega) _)
      have HCZ : Hid (Blk (w0.drew.setRow (w.heap.size + 1 + 1) (phC s e)) w.heap.size 23 (phC s e) ∧ (w0.drew.setRow (w.heap.size + 1 + 1) (phC s e)).cell? ⟨0, 0, none⟩ = some (ev (a 0))) := Lib.hid ⟨HCC.out.1.farRow (by omega) _, (cell_setRow_other w0.drew _ _ _ (show 0 ≠ w.heap.size + 1 + 1 by have := HGN.out; omega)).trans HCC.out.2⟩
      refine hK _ _ HCZ.out ?_
      generalize w0.drew.setRow (w.heap.size + 1 + 1) (phC s e) = wz at HZ HBZ HCZ
      try simp only [Act.put, List.getElem_toArray, List.getElem_cons_zero, List.getElem_cons_succ]
      refine wpAnyH_take (i := 3) (v := ?_) rfl (by kernel_rfl) (by kernel_rfl) (by kernel_rfl) (fun _ _ _ h => h) (Or.inl ⟨by rfl, ?_⟩) HCZ.out ?_
      rotate_left
      · intro w' hS; go_simp; with_reducible rfl
      try simp only [Act.put, List.getElem_toArray, List.getElem_cons_zero, List.getElem_cons_succ, List.setIfInBounds_toArray, List.set_cons_zero, List.set_cons_succ]
      refine wpAnyH_done (by kernel_rfl) ?_ _
      go_wp2
      exact bodyPost_ret (v := .tuple #[.agg (phC s e), ev (a 0)]) (results_cell_ph rfl _ _ (w.heap.size + 1 + 1) 23 (phC s e) _ _ (by rfl) (by rfl) HZ.out Tryd.underlying23 rfl ph_load) rfl ⟨by rw [HQ.out]; rfl, HBZ.out⟩
    · have hq : q0 = q := by rw [HT.out, if_neg (by omega)]
      rw [hq]
      clear hq HT
      go_enter Tryd.func26, Tryd.ntmps26
      go_wp2_with (go_at_call 27; refine pause ?_)
      unfold Paused
      rw [← HW.out]
      refine CM.mono ?_
      rintro r w1 ⟨rfl, hb1⟩
      have HP1 := Lib.hid (HP.out.below hb1)
      clear CM hb1 HG HCR HCS
      clear cR
      obtain ⟨cR, hcR, hcs⟩ := HP1.out.2.2.1
      have HCR := Lib.hid hcR
      have HCS := Lib.hid hcs
      clear hcR hcs
      obtain ⟨q1, q2, q3⟩ := q
      unfold phOut phV
      dsimp only
      obtain ⟨u, hu⟩ : ∃ u, u = erV a q3 := ⟨_, rfl⟩
      rw [← hu]
      have HU := Lib.hid hu
      clear hu
      try simp only [Act.put, List.getElem_toArray, List.getElem_cons_zero, List.getElem_cons_succ, List.setIfInBounds_toArray, List.set_cons_zero, List.set_cons_succ]
      go_wp2_with (with_reducible (show wpList _ _ _ (Oper.mk _ (Op.store 23 _ _) _ _ _ _ :: _) _ _); refine pause ?_)
      unfold Paused
      refine wpList_store_row rfl 23 (.tmp 8) (.tmp 25) rfl (w.heap.size + 1 + 1) (phC q1 q2) (by rfl) (by rfl) 23 cR HCR.out ph_load HCS.out (ph_one _ _) ?_
      have HZ : Hid (Blk (w1.setRow (w.heap.size + 1 + 1) (phC q1 q2)) (w.heap.size + 1 + 1) 23 (phC q1 q2)) := Lib.hid (HCR.out.row _)
      have HBZ : Hid (Below w.heap.size w (w1.setRow (w.heap.size + 1 + 1) (phC q1 q2))) := Lib.hid (below_row HP1.out.2.2.2 (by omega) _)
      generalize w1.setRow (w.heap.size + 1 + 1) (phC q1 q2) = wz at HZ HBZ
      go_wp2
      exact bodyPost_ret (v := .tuple #[.agg (phC q1 q2), u]) (results_cell_ph rfl _ _ (w.heap.size + 1 + 1) 23 (phC q1 q2) _ _ (by rfl) (by rfl) HZ.out Tryd.underlying23 rfl ph_load) rfl ⟨by rw [HU.out]; rfl, HBZ.out⟩
end Go.Proofs.YtagplmlhpocbjaaDoor
