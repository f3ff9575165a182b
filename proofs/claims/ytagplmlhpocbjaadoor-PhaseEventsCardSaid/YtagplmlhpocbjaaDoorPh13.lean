/- The document's table and its Do. -/
import Derived.Test.YtagplmlhpocbjaaDoorPh11
namespace Go.Proofs.YtagplmlhpocbjaaDoor
open Go Go.RowKit
def Ph.rows (k : Int) : List Int := if k = 0 then [0, 1, 3, 4, 5] else if k = 1 then [0, 1, 2, 3] else if k = 2 then [2] else if k = 3 then [1, 2, 3, 4] else [4]
set_option maxRecDepth 100000 in
set_option maxHeartbeats 4000000 in
theorem from_any (k s : Int) (w : World) (h1 : 0 ≤ k) (h2 : k < 5) (h3 : 0 ≤ s) (h4 : s < 6) : Calls Tryd.prog 22 #[.int .i64 k, .int .i64 s] w fun r w' => r = .returned (.bool ((Ph.rows k).contains s)) ∧ Below w.heap.size w w' := by
  have hk : k = 0 ∨ k = 1 ∨ k = 2 ∨ k = 3 ∨ k = 4 := by omega
  have hs : s = 0 ∨ s = 1 ∨ s = 2 ∨ s = 3 ∨ s = 4 ∨ s = 5 := by omega
  clear h1 h2 h3 h4
  rcases hk with rfl | rfl | rfl | rfl | rfl <;> rcases hs with rfl | rfl | rfl | rfl | rfl | rfl
  all_goals
    go_enter Tryd.func22, Tryd.ntmps22
    go_wp2
    go_ret
    exact ⟨by rfl, (Below.refl _ _).alloc (Nat.le_refl _) _⟩
def rOut (q : Int × Int × Nat) : Value := .tuple #[phV q.1 q.2.1, .int .i64 (q.2.2 : Nat)]
/-- what stands while the document works -/
def RPh (w w' : World) (s e : Int) : Prop := Blk w' w.heap.size 30 (phC s e) ∧ (∃ c, Blk w' (w.heap.size + 1) 30 c ∧ c.size = 2) ∧ Below w.heap.size w w'
theorem RPh.below {w w1 w2 : World} {s e : Int} (h : RPh w w1 s e) (hb : Below w1.heap.size w1 w2) : RPh w w2 s e := by
  obtain ⟨h1, ⟨c, h3, hc⟩, h4⟩ := h
  exact ⟨h1.below hb h1.lt, ⟨c, h3.below hb h3.lt, hc⟩, h4.trans (hb.mono h4.size)⟩
set_option maxRecDepth 100000 in
set_option maxHeartbeats 4000000 in
theorem rdo0_any (s e x : Int) (w : World) : Calls Tryd.prog 9 #[phV s e, .int .i64 0, .int .i64 x] w fun r w' => r = .returned (rOut (Ph.run 0 s e x)) ∧ Below w.heap.size w w' := by
  obtain ⟨w0, hw0, x1, x2, hb0, hz⟩ := two_new w 30 30 (phC s e) (phC 0 0)
  have HP : Hid (RPh w w0 s e) := Lib.hid ⟨x1, ⟨_, x2, rfl⟩, hb0⟩
  have HM : Hid (Ph.move s e 1 x (decide (e < x) || (decide (x = e) && [0, 4, 5].contains s)) [0, 1, 3, 4, 5] = if Ph.rt s e = false then (s, e, 4) else if [0, 1, 3, 4, 5].contains s = false then (s, e, 19) else if (decide (e < x) || (decide (x = e) && [0, 4, 5].contains s)) = false then (s, e, 18) else (1, x, 0)) := Lib.hid rfl
  have HT : Hid (Ph.run 0 s e x = if x < 1 ∨ 1099511627776 < x then (s, e, 1) else Ph.move s e 1 x (decide (e < x) || (decide (x = e) && [0, 4, 5].contains s)) [0, 1, 3, 4, 5]) := Lib.hid rfl
  have HRT : Hid (Ph.rt s e = true → 0 ≤ s ∧ s < 6 ∧ (s = 0 → e = 0)) := Lib.hid (by intro h; simp only [Ph.rt, decide_eq_true_eq] at h; omega)
  have CR := rright_any s e w0
  have HW := Lib.hid hw0
  clear hw0 x1 x2 hb0 hz
  generalize Ph.run 0 s e x = q0 at HT ⊢
  generalize Ph.move s e 1 x (decide (e < x) || (decide (x = e) && [0, 4, 5].contains s)) [0, 1, 3, 4, 5] = q at HT HM
  generalize Ph.rt s e = ρ at HM HRT CR
  obtain ⟨cR, hcR, hcs⟩ := HP.out.2.1
  have HCR := Lib.hid hcR
  have HCS := Lib.hid hcs
  clear hcR hcs
  unfold phV at CR ⊢
  by_cases h1 : x < 1
  · have HQ : Hid (q0 = (s, e, 1)) := Lib.hid (by rw [HT.out, if_pos (Or.inl h1)])
    go_enter Tryd.func9, Tryd.ntmps9
    have c0 : w0.cell? ⟨w.heap.size, 0, none⟩ = some (.int .i64 s) := HP.out.1.cell 0
    have c1 : w0.cell? ⟨w.heap.size, 1, none⟩ = some (.int .i64 e) := HP.out.1.cell 1
    go_wp2_with (with_reducible (show wpList _ _ _ (Oper.mk _ (Op.store 30 _ _) _ _ _ _ :: _) _ _); refine pause ?_)
    unfold Paused
    rw [← HW.out]
    refine wpList_store_row rfl 30 (.tmp 6) (.tmp 19) rfl (w.heap.size + 1) (phC s e) (by rfl) (by rfl) 30 cR HCR.out rph_load HCS.out (ph_one _ _) ?_
    have HZ : Hid (Blk (w0.setRow (w.heap.size + 1) (phC s e)) (w.heap.size + 1) 30 (phC s e)) := Lib.hid (HCR.out.row _)
    have HBZ : Hid (Below w.heap.size w (w0.setRow (w.heap.size + 1) (phC s e))) := Lib.hid (below_row HP.out.2.2 (by omega) _)
    generalize w0.setRow (w.heap.size + 1) (phC s e) = wz at HZ HBZ
    go_wp2
    exact bodyPost_ret (v := .tuple #[.agg (phC s e), .int .i64 1]) (results_cell_ph rfl _ _ (w.heap.size + 1) 30 (phC s e) _ _ (by rfl) (by rfl) HZ.out Tryd.underlying30 rfl rph_load) rfl ⟨by rw [HQ.out]; rfl, HBZ.out⟩
  · skip
    by_cases h2 : 1099511627776 < x
    · have HQ : Hid (q0 = (s, e, 1)) := Lib.hid (by rw [HT.out, if_pos (Or.inr h2)])
      go_enter Tryd.func9, Tryd.ntmps9
      have c0 : w0.cell? ⟨w.heap.size, 0, none⟩ = some (.int .i64 s) := HP.out.1.cell 0
      have c1 : w0.cell? ⟨w.heap.size, 1, none⟩ = some (.int .i64 e) := HP.out.1.cell 1
      go_wp2_with (with_reducible (show wpList _ _ _ (Oper.mk _ (Op.store 30 _ _) _ _ _ _ :: _) _ _); refine pause ?_)
      unfold Paused
      rw [← HW.out]
      refine wpList_store_row rfl 30 (.tmp 6) (.tmp 19) rfl (w.heap.size + 1) (phC s e) (by rfl) (by rfl) 30 cR HCR.out rph_load HCS.out (ph_one _ _) ?_
      have HZ : Hid (Blk (w0.setRow (w.heap.size + 1) (phC s e)) (w.heap.size + 1) 30 (phC s e)) := Lib.hid (HCR.out.row _)
      have HBZ : Hid (Below w.heap.size w (w0.setRow (w.heap.size + 1) (phC s e))) := Lib.hid (below_row HP.out.2.2 (by omega) _)
      generalize w0.setRow (w.heap.size + 1) (phC s e) = wz at HZ HBZ
      go_wp2
      exact bodyPost_ret (v := .tuple #[.agg (phC s e), .int .i64 1]) (results_cell_ph rfl _ _ (w.heap.size + 1) 30 (phC s e) _ _ (by rfl) (by rfl) HZ.out Tryd.underlying30 rfl rph_load) rfl ⟨by rw [HQ.out]; rfl, HBZ.out⟩
    · skip
      have hq : q0 = q := by rw [HT.out, if_neg (by omega)]
      subst hq
      clear HT
      go_enter Tryd.func9, Tryd.ntmps9
      go_wp2_with (go_at_call 12; refine pause ?_)
      unfold Paused
      rw [← HW.out]
      refine CR.mono ?_
      rintro r w1 ⟨rfl, hb1⟩
      have HP1 := Lib.hid (HP.out.below hb1)
      clear CR hb1 HCR HCS HW HP
      clear cR
      clear w0
      obtain ⟨cR, hcR, hcs⟩ := HP1.out.2.1
      have HCR := Lib.hid hcR
      have HCS := Lib.hid hcs
      clear hcR hcs
      have c0 : w1.cell? ⟨w.heap.size, 0, none⟩ = some (.int .i64 s) := HP1.out.1.cell 0
      have c1 : w1.cell? ⟨w.heap.size, 1, none⟩ = some (.int .i64 e) := HP1.out.1.cell 1
      cases ρ with
      | false =>
        have HQ : Hid (q0 = (s, e, 4)) := Lib.hid HM.out
        go_wp2_with (with_reducible (show wpList _ _ _ (Oper.mk _ (Op.store 30 _ _) _ _ _ _ :: _) _ _); refine pause ?_)
        unfold Paused
        refine wpList_store_row rfl 30 (.tmp 6) (.tmp 23) rfl (w.heap.size + 1) (phC s e) (by rfl) (by rfl) 30 cR HCR.out rph_load HCS.out (ph_one _ _) ?_
        have HZ : Hid (Blk (w1.setRow (w.heap.size + 1) (phC s e)) (w.heap.size + 1) 30 (phC s e)) := Lib.hid (HCR.out.row _)
        have HBZ : Hid (Below w.heap.size w (w1.setRow (w.heap.size + 1) (phC s e))) := Lib.hid (below_row HP1.out.2.2 (by omega) _)
        generalize w1.setRow (w.heap.size + 1) (phC s e) = wz at HZ HBZ
        go_wp2
        exact bodyPost_ret (v := .tuple #[.agg (phC s e), .int .i64 4]) (results_cell_ph rfl _ _ (w.heap.size + 1) 30 (phC s e) _ _ (by rfl) (by rfl) HZ.out Tryd.underlying30 rfl rph_load) rfl ⟨by rw [HQ.out]; rfl, HBZ.out⟩
      | true =>
        obtain ⟨hs0, hs6, hse⟩ := HRT.out rfl
        have CF := from_any 0 s w1 (by omega) (by omega) hs0 hs6
        rw [show Ph.rows 0 = [0, 1, 3, 4, 5] by rfl] at CF
        have HS0 := Lib.hid hs0
        have HSE := Lib.hid hse
        have HS6 := Lib.hid hs6
        clear hs0 hs6 hse HRT
        obtain ⟨β, hβ⟩ : ∃ β, β = [0, 1, 3, 4, 5].contains s := ⟨_, rfl⟩
        rw [← hβ] at HM CF
        have HBE := Lib.hid hβ
        clear hβ
        go_wp2_with (go_at_call 22; refine pause ?_)
        unfold Paused
        refine CF.mono ?_
        rintro r w2 ⟨rfl, hb2⟩
        have HP2 := Lib.hid (HP1.out.below hb2)
        clear CF hb2 HCR HCS c0 c1 HP1
        clear cR
        obtain ⟨cR, hcR, hcs⟩ := HP2.out.2.1
        have HCR := Lib.hid hcR
        have HCS := Lib.hid hcs
        clear hcR hcs
        have c0 : w2.cell? ⟨w.heap.size, 0, none⟩ = some (.int .i64 s) := HP2.out.1.cell 0
        have c1 : w2.cell? ⟨w.heap.size, 1, none⟩ = some (.int .i64 e) := HP2.out.1.cell 1
        cases β with
        | false =>
          have HQ : Hid (q0 = (s, e, 19)) := Lib.hid (by rw [HM.out]; rfl)
          go_wp2_with (with_reducible (show wpList _ _ _ (Oper.mk _ (Op.store 30 _ _) _ _ _ _ :: _) _ _); refine pause ?_)
          unfold Paused
          refine wpList_store_row rfl 30 (.tmp 6) (.tmp 29) rfl (w.heap.size + 1) (phC s e) (by rfl) (by rfl) 30 cR HCR.out rph_load HCS.out (ph_one _ _) ?_
          have HZ : Hid (Blk (w2.setRow (w.heap.size + 1) (phC s e)) (w.heap.size + 1) 30 (phC s e)) := Lib.hid (HCR.out.row _)
          have HBZ : Hid (Below w.heap.size w (w2.setRow (w.heap.size + 1) (phC s e))) := Lib.hid (below_row HP2.out.2.2 (by omega) _)
          generalize w2.setRow (w.heap.size + 1) (phC s e) = wz at HZ HBZ
          go_wp2
          exact bodyPost_ret (v := .tuple #[.agg (phC s e), .int .i64 19]) (results_cell_ph rfl _ _ (w.heap.size + 1) 30 (phC s e) _ _ (by rfl) (by rfl) HZ.out Tryd.underlying30 rfl rph_load) rfl ⟨by rw [HQ.out]; rfl, HBZ.out⟩
        | true =>
          by_cases h3 : e < x
          · have g3 : ¬ x ≤ e := by omega
            have g4 : (x == e) = false := by simp; omega
            have HQ : Hid (q0 = (1, x, 0)) := Lib.hid (by rw [HM.out, if_neg (by simp), if_neg (by simp), if_neg (by simp [h3])])
            by_cases h5 : 4 ≤ s
            · skip
              go_wp2_with (with_reducible (show wpList _ _ _ (Oper.mk _ (Op.store 3 _ _) _ _ _ _ :: _) _ _); refine pause ?_)
              unfold Paused
              have HPA : Hid (RPh w (w2.alloc (.cells #[.int .i64 1, .int .i64 2, .int .i64 3, .int .i64 4, .int .i64 5] 3)) s e) := Lib.hid (HP2.out.below ((Below.refl _ _).alloc (Nat.le_refl _) _))
              have HCA : Hid (Blk (w2.alloc (.cells #[.int .i64 1, .int .i64 2, .int .i64 3, .int .i64 4, .int .i64 5] 3)) (w.heap.size + 1) 30 cR) := Lib.hid (HCR.out.alloc _)
              change wpList _ _ _ _ _ (w2.alloc (.cells #[.int .i64 1, .int .i64 2, .int .i64 3, .int .i64 4, .int .i64 5] 3))
              generalize w2.alloc (.cells #[.int .i64 1, .int .i64 2, .int .i64 3, .int .i64 4, .int .i64 5] 3) = wa at HPA HCA
              clear c0 c1
              have c0 : wa.cell? ⟨w.heap.size, 0, none⟩ = some (.int .i64 s) := HPA.out.1.cell 0
              have c1 : wa.cell? ⟨w.heap.size, 1, none⟩ = some (.int .i64 e) := HPA.out.1.cell 1
              have f0 : wa.frozen? ⟨w.heap.size, 0, none⟩ = false := HPA.out.1.frozen 0
              have f1 : (wa.setCell ⟨w.heap.size, 0, none⟩ (.int .i64 1)).frozen? ⟨w.heap.size, 1, none⟩ = false := (HPA.out.1.set_ 0 _).frozen 1
              have HFR : Hid (Blk ((wa.setCell ⟨w.heap.size, 0, none⟩ (.int .i64 1)).setCell ⟨w.heap.size, 1, none⟩ (.int .i64 x)) (w.heap.size + 1) 30 cR) := Lib.hid ((HCA.out.far (show w.heap.size + 1 ≠ w.heap.size by omega) _).far (show w.heap.size + 1 ≠ w.heap.size by omega) _)
              have HBF : Hid (Below w.heap.size w ((wa.setCell ⟨w.heap.size, 0, none⟩ (.int .i64 1)).setCell ⟨w.heap.size, 1, none⟩ (.int .i64 x))) := Lib.hid ((HPA.out.2.2.setCell (show w.heap.size ≤ w.heap.size by omega) _).setCell (show w.heap.size ≤ w.heap.size by omega) _)
              go_wp2_with (with_reducible (show wpList _ _ _ (Oper.mk _ (Op.store 30 _ _) _ _ _ _ :: _) _ _); refine pause ?_)
              unfold Paused
              refine wpList_store_row rfl 30 (.tmp 6) (.tmp 91) rfl (w.heap.size + 1) (phC 1 x) (by rfl) (by rfl) 30 cR HFR.out rph_load HCS.out (ph_one _ _) ?_
              have HZ : Hid (Blk (((wa.setCell ⟨w.heap.size, 0, none⟩ (.int .i64 1)).setCell ⟨w.heap.size, 1, none⟩ (.int .i64 x)).setRow (w.heap.size + 1) (phC 1 x)) (w.heap.size + 1) 30 (phC 1 x)) := Lib.hid (HFR.out.row _)
              have HBZ : Hid (Below w.heap.size w (((wa.setCell ⟨w.heap.size, 0, none⟩ (.int .i64 1)).setCell ⟨w.heap.size, 1, none⟩ (.int .i64 x)).setRow (w.heap.size + 1) (phC 1 x))) := Lib.hid (below_row HBF.out (by omega) _)
              generalize ((wa.setCell ⟨w.heap.size, 0, none⟩ (.int .i64 1)).setCell ⟨w.heap.size, 1, none⟩ (.int .i64 x)).setRow (w.heap.size + 1) (phC 1 x) = wz at HZ HBZ
              go_wp2
              exact bodyPost_ret (v := .tuple #[.agg (phC 1 x), .int .i64 0]) (results_cell_ph rfl _ _ (w.heap.size + 1) 30 (phC 1 x) _ _ (by rfl) (by rfl) HZ.out Tryd.underlying30 rfl rph_load) rfl ⟨by rw [HQ.out]; rfl, HBZ.out⟩
            · skip
              go_wp2_with (with_reducible (show wpList _ _ _ (Oper.mk _ (Op.store 3 _ _) _ _ _ _ :: _) _ _); refine pause ?_)
              unfold Paused
              have HPA : Hid (RPh w (w2.alloc (.cells #[.int .i64 1, .int .i64 2, .int .i64 3, .int .i64 4, .int .i64 5] 3)) s e) := Lib.hid (HP2.out.below ((Below.refl _ _).alloc (Nat.le_refl _) _))
              have HCA : Hid (Blk (w2.alloc (.cells #[.int .i64 1, .int .i64 2, .int .i64 3, .int .i64 4, .int .i64 5] 3)) (w.heap.size + 1) 30 cR) := Lib.hid (HCR.out.alloc _)
              change wpList _ _ _ _ _ (w2.alloc (.cells #[.int .i64 1, .int .i64 2, .int .i64 3, .int .i64 4, .int .i64 5] 3))
              generalize w2.alloc (.cells #[.int .i64 1, .int .i64 2, .int .i64 3, .int .i64 4, .int .i64 5] 3) = wa at HPA HCA
              clear c0 c1
              have c0 : wa.cell? ⟨w.heap.size, 0, none⟩ = some (.int .i64 s) := HPA.out.1.cell 0
              have c1 : wa.cell? ⟨w.heap.size, 1, none⟩ = some (.int .i64 e) := HPA.out.1.cell 1
              have f0 : wa.frozen? ⟨w.heap.size, 0, none⟩ = false := HPA.out.1.frozen 0
              have f1 : (wa.setCell ⟨w.heap.size, 0, none⟩ (.int .i64 1)).frozen? ⟨w.heap.size, 1, none⟩ = false := (HPA.out.1.set_ 0 _).frozen 1
              have HFR : Hid (Blk ((wa.setCell ⟨w.heap.size, 0, none⟩ (.int .i64 1)).setCell ⟨w.heap.size, 1, none⟩ (.int .i64 x)) (w.heap.size + 1) 30 cR) := Lib.hid ((HCA.out.far (show w.heap.size + 1 ≠ w.heap.size by omega) _).far (show w.heap.size + 1 ≠ w.heap.size by omega) _)
              have HBF : Hid (Below w.heap.size w ((wa.setCell ⟨w.heap.size, 0, none⟩ (.int .i64 1)).setCell ⟨w.heap.size, 1, none⟩ (.int .i64 x))) := Lib.hid ((HPA.out.2.2.setCell (show w.heap.size ≤ w.heap.size by omega) _).setCell (show w.heap.size ≤ w.heap.size by omega) _)
              go_wp2_with (with_reducible (show wpList _ _ _ (Oper.mk _ (Op.store 30 _ _) _ _ _ _ :: _) _ _); refine pause ?_)
              unfold Paused
              refine wpList_store_row rfl 30 (.tmp 6) (.tmp 91) rfl (w.heap.size + 1) (phC 1 x) (by rfl) (by rfl) 30 cR HFR.out rph_load HCS.out (ph_one _ _) ?_
              have HZ : Hid (Blk (((wa.setCell ⟨w.heap.size, 0, none⟩ (.int .i64 1)).setCell ⟨w.heap.size, 1, none⟩ (.int .i64 x)).setRow (w.heap.size + 1) (phC 1 x)) (w.heap.size + 1) 30 (phC 1 x)) := Lib.hid (HFR.out.row _)
              have HBZ : Hid (Below w.heap.size w (((wa.setCell ⟨w.heap.size, 0, none⟩ (.int .i64 1)).setCell ⟨w.heap.size, 1, none⟩ (.int .i64 x)).setRow (w.heap.size + 1) (phC 1 x))) := Lib.hid (below_row HBF.out (by omega) _)
              generalize ((wa.setCell ⟨w.heap.size, 0, none⟩ (.int .i64 1)).setCell ⟨w.heap.size, 1, none⟩ (.int .i64 x)).setRow (w.heap.size + 1) (phC 1 x) = wz at HZ HBZ
              go_wp2
              exact bodyPost_ret (v := .tuple #[.agg (phC 1 x), .int .i64 0]) (results_cell_ph rfl _ _ (w.heap.size + 1) 30 (phC 1 x) _ _ (by rfl) (by rfl) HZ.out Tryd.underlying30 rfl rph_load) rfl ⟨by rw [HQ.out]; rfl, HBZ.out⟩
          · have g3 : x ≤ e := by omega
            by_cases h4 : x = e
            · by_cases h5 : 4 ≤ s
              · have hc : (decide (e < x) || (decide (x = e) && [0, 4, 5].contains s)) = true := by
                  have h9 := HS6.out
                  have h6 : s = 4 ∨ s = 5 := by omega
                  have h7 : [0, 4, 5].contains s = true := by rw [List.contains_iff_mem]; simp only [List.mem_cons, List.not_mem_nil, or_false]; omega
                  rw [h7, h4]; simp
                have HQ : Hid (q0 = (1, x, 0)) := Lib.hid (by rw [HM.out, if_neg (by simp), if_neg (by simp), if_neg (by rw [hc]; simp)])
                clear hc
                subst h4
                go_wp2_with (with_reducible (show wpList _ _ _ (Oper.mk _ (Op.store 3 _ _) _ _ _ _ :: _) _ _); refine pause ?_)
                unfold Paused
                have HPA : Hid (RPh w (w2.alloc (.cells #[.int .i64 1, .int .i64 2, .int .i64 3, .int .i64 4, .int .i64 5] 3)) s x) := Lib.hid (HP2.out.below ((Below.refl _ _).alloc (Nat.le_refl _) _))
                have HCA : Hid (Blk (w2.alloc (.cells #[.int .i64 1, .int .i64 2, .int .i64 3, .int .i64 4, .int .i64 5] 3)) (w.heap.size + 1) 30 cR) := Lib.hid (HCR.out.alloc _)
                change wpList _ _ _ _ _ (w2.alloc (.cells #[.int .i64 1, .int .i64 2, .int .i64 3, .int .i64 4, .int .i64 5] 3))
                generalize w2.alloc (.cells #[.int .i64 1, .int .i64 2, .int .i64 3, .int .i64 4, .int .i64 5] 3) = wa at HPA HCA
                clear c0 c1
                have c0 : wa.cell? ⟨w.heap.size, 0, none⟩ = some (.int .i64 s) := HPA.out.1.cell 0
                have c1 : wa.cell? ⟨w.heap.size, 1, none⟩ = some (.int .i64 x) := HPA.out.1.cell 1
                have f0 : wa.frozen? ⟨w.heap.size, 0, none⟩ = false := HPA.out.1.frozen 0
                have f1 : (wa.setCell ⟨w.heap.size, 0, none⟩ (.int .i64 1)).frozen? ⟨w.heap.size, 1, none⟩ = false := (HPA.out.1.set_ 0 _).frozen 1
                have HFR : Hid (Blk ((wa.setCell ⟨w.heap.size, 0, none⟩ (.int .i64 1)).setCell ⟨w.heap.size, 1, none⟩ (.int .i64 x)) (w.heap.size + 1) 30 cR) := Lib.hid ((HCA.out.far (show w.heap.size + 1 ≠ w.heap.size by omega) _).far (show w.heap.size + 1 ≠ w.heap.size by omega) _)
                have HBF : Hid (Below w.heap.size w ((wa.setCell ⟨w.heap.size, 0, none⟩ (.int .i64 1)).setCell ⟨w.heap.size, 1, none⟩ (.int .i64 x))) := Lib.hid ((HPA.out.2.2.setCell (show w.heap.size ≤ w.heap.size by omega) _).setCell (show w.heap.size ≤ w.heap.size by omega) _)
                go_wp2_with (with_reducible (show wpList _ _ _ (Oper.mk _ (Op.store 30 _ _) _ _ _ _ :: _) _ _); refine pause ?_)
                unfold Paused
                refine wpList_store_row rfl 30 (.tmp 6) (.tmp 91) rfl (w.heap.size + 1) (phC 1 x) (by rfl) (by rfl) 30 cR HFR.out rph_load HCS.out (ph_one _ _) ?_
                have HZ : Hid (Blk (((wa.setCell ⟨w.heap.size, 0, none⟩ (.int .i64 1)).setCell ⟨w.heap.size, 1, none⟩ (.int .i64 x)).setRow (w.heap.size + 1) (phC 1 x)) (w.heap.size + 1) 30 (phC 1 x)) := Lib.hid (HFR.out.row _)
                have HBZ : Hid (Below w.heap.size w (((wa.setCell ⟨w.heap.size, 0, none⟩ (.int .i64 1)).setCell ⟨w.heap.size, 1, none⟩ (.int .i64 x)).setRow (w.heap.size + 1) (phC 1 x))) := Lib.hid (below_row HBF.out (by omega) _)
                generalize ((wa.setCell ⟨w.heap.size, 0, none⟩ (.int .i64 1)).setCell ⟨w.heap.size, 1, none⟩ (.int .i64 x)).setRow (w.heap.size + 1) (phC 1 x) = wz at HZ HBZ
                go_wp2
                exact bodyPost_ret (v := .tuple #[.agg (phC 1 x), .int .i64 0]) (results_cell_ph rfl _ _ (w.heap.size + 1) 30 (phC 1 x) _ _ (by rfl) (by rfl) HZ.out Tryd.underlying30 rfl rph_load) rfl ⟨by rw [HQ.out]; rfl, HBZ.out⟩
              · have hc : (decide (e < x) || (decide (x = e) && [0, 4, 5].contains s)) = false := by
                  have h9 := HSE.out
                  have h7 : [0, 4, 5].contains s = false := by
                    rw [Bool.eq_false_iff, Ne, List.contains_iff_mem]; simp only [List.mem_cons, List.not_mem_nil, or_false]; omega
                  rw [h7]; simp [h3]
                have HQ : Hid (q0 = (s, e, 18)) := Lib.hid (by rw [HM.out, if_neg (by simp), if_neg (by simp), if_pos hc])
                clear hc
                subst h4
                go_wp2_with (with_reducible (show wpList _ _ _ (Oper.mk _ (Op.store 30 _ _) _ _ _ _ :: _) _ _); refine pause ?_)
                unfold Paused
                refine wpList_store_row rfl 30 (.tmp 6) (.tmp 73) rfl (w.heap.size + 1) (phC s x) (by rfl) (by rfl) 30 cR HCR.out rph_load HCS.out (ph_one _ _) ?_
                have HZ : Hid (Blk (w2.setRow (w.heap.size + 1) (phC s x)) (w.heap.size + 1) 30 (phC s x)) := Lib.hid (HCR.out.row _)
                have HBZ : Hid (Below w.heap.size w (w2.setRow (w.heap.size + 1) (phC s x))) := Lib.hid (below_row HP2.out.2.2 (by omega) _)
                generalize w2.setRow (w.heap.size + 1) (phC s x) = wz at HZ HBZ
                go_wp2
                exact bodyPost_ret (v := .tuple #[.agg (phC s x), .int .i64 18]) (results_cell_ph rfl _ _ (w.heap.size + 1) 30 (phC s x) _ _ (by rfl) (by rfl) HZ.out Tryd.underlying30 rfl rph_load) rfl ⟨by rw [HQ.out]; rfl, HBZ.out⟩
            · have g4 : (x == e) = false := by simpa using h4
              have HQ : Hid (q0 = (s, e, 18)) := Lib.hid (by rw [HM.out, if_neg (by simp), if_neg (by simp), if_pos (by simp [h3, h4])])
              by_cases h5 : 4 ≤ s
              · skip
                go_wp2_with (with_reducible (show wpList _ _ _ (Oper.mk _ (Op.store 30 _ _) _ _ _ _ :: _) _ _); refine pause ?_)
                unfold Paused
                refine wpList_store_row rfl 30 (.tmp 6) (.tmp 73) rfl (w.heap.size + 1) (phC s e) (by rfl) (by rfl) 30 cR HCR.out rph_load HCS.out (ph_one _ _) ?_
                have HZ : Hid (Blk (w2.setRow (w.heap.size + 1) (phC s e)) (w.heap.size + 1) 30 (phC s e)) := Lib.hid (HCR.out.row _)
                have HBZ : Hid (Below w.heap.size w (w2.setRow (w.heap.size + 1) (phC s e))) := Lib.hid (below_row HP2.out.2.2 (by omega) _)
                generalize w2.setRow (w.heap.size + 1) (phC s e) = wz at HZ HBZ
                go_wp2
                exact bodyPost_ret (v := .tuple #[.agg (phC s e), .int .i64 18]) (results_cell_ph rfl _ _ (w.heap.size + 1) 30 (phC s e) _ _ (by rfl) (by rfl) HZ.out Tryd.underlying30 rfl rph_load) rfl ⟨by rw [HQ.out]; rfl, HBZ.out⟩
              · skip
                go_wp2_with (with_reducible (show wpList _ _ _ (Oper.mk _ (Op.store 30 _ _) _ _ _ _ :: _) _ _); refine pause ?_)
                unfold Paused
                refine wpList_store_row rfl 30 (.tmp 6) (.tmp 73) rfl (w.heap.size + 1) (phC s e) (by rfl) (by rfl) 30 cR HCR.out rph_load HCS.out (ph_one _ _) ?_
                have HZ : Hid (Blk (w2.setRow (w.heap.size + 1) (phC s e)) (w.heap.size + 1) 30 (phC s e)) := Lib.hid (HCR.out.row _)
                have HBZ : Hid (Below w.heap.size w (w2.setRow (w.heap.size + 1) (phC s e))) := Lib.hid (below_row HP2.out.2.2 (by omega) _)
                generalize w2.setRow (w.heap.size + 1) (phC s e) = wz at HZ HBZ
                go_wp2
                exact bodyPost_ret (v := .tuple #[.agg (phC s e), .int .i64 18]) (results_cell_ph rfl _ _ (w.heap.size + 1) 30 (phC s e) _ _ (by rfl) (by rfl) HZ.out Tryd.underlying30 rfl rph_load) rfl ⟨by rw [HQ.out]; rfl, HBZ.out⟩
set_option maxRecDepth 100000 in
set_option maxHeartbeats 4000000 in
theorem rdo1_any (s e x : Int) (w : World) : Calls Tryd.prog 9 #[phV s e, .int .i64 1, .int .i64 x] w fun r w' => r = .returned (rOut (Ph.run 1 s e x)) ∧ Below w.heap.size w w' := by
  obtain ⟨w0, hw0, x1, x2, hb0, hz⟩ := two_new w 30 30 (phC s e) (phC 0 0)
  have HP : Hid (RPh w w0 s e) := Lib.hid ⟨x1, ⟨_, x2, rfl⟩, hb0⟩
  have HM : Hid (Ph.move s e 2 x (decide (e < x)) [0, 1, 2, 3] = if Ph.rt s e = false then (s, e, 4) else if [0, 1, 2, 3].contains s = false then (s, e, 19) else if (decide (e < x)) = false then (s, e, 18) else (2, x, 0)) := Lib.hid rfl
  have HT : Hid (Ph.run 1 s e x = if x < 1 ∨ 1099511627776 < x then (s, e, 1) else Ph.move s e 2 x (decide (e < x)) [0, 1, 2, 3]) := Lib.hid rfl
  have HRT : Hid (Ph.rt s e = true → 0 ≤ s ∧ s < 6 ∧ (s = 0 → e = 0)) := Lib.hid (by intro h; simp only [Ph.rt, decide_eq_true_eq] at h; omega)
  have CR := rright_any s e w0
  have HW := Lib.hid hw0
  clear hw0 x1 x2 hb0 hz
  generalize Ph.run 1 s e x = q0 at HT ⊢
  generalize Ph.move s e 2 x (decide (e < x)) [0, 1, 2, 3] = q at HT HM
  generalize Ph.rt s e = ρ at HM HRT CR
  obtain ⟨cR, hcR, hcs⟩ := HP.out.2.1
  have HCR := Lib.hid hcR
  have HCS := Lib.hid hcs
  clear hcR hcs
  unfold phV at CR ⊢
  by_cases h1 : x < 1
  · have HQ : Hid (q0 = (s, e, 1)) := Lib.hid (by rw [HT.out, if_pos (Or.inl h1)])
    go_enter Tryd.func9, Tryd.ntmps9
    have c0 : w0.cell? ⟨w.heap.size, 0, none⟩ = some (.int .i64 s) := HP.out.1.cell 0
    have c1 : w0.cell? ⟨w.heap.size, 1, none⟩ = some (.int .i64 e) := HP.out.1.cell 1
    go_wp2_with (with_reducible (show wpList _ _ _ (Oper.mk _ (Op.store 30 _ _) _ _ _ _ :: _) _ _); refine pause ?_)
    unfold Paused
    rw [← HW.out]
    refine wpList_store_row rfl 30 (.tmp 6) (.tmp 19) rfl (w.heap.size + 1) (phC s e) (by rfl) (by rfl) 30 cR HCR.out rph_load HCS.out (ph_one _ _) ?_
    have HZ : Hid (Blk (w0.setRow (w.heap.size + 1) (phC s e)) (w.heap.size + 1) 30 (phC s e)) := Lib.hid (HCR.out.row _)
    have HBZ : Hid (Below w.heap.size w (w0.setRow (w.heap.size + 1) (phC s e))) := Lib.hid (below_row HP.out.2.2 (by omega) _)
    generalize w0.setRow (w.heap.size + 1) (phC s e) = wz at HZ HBZ
    go_wp2
    exact bodyPost_ret (v := .tuple #[.agg (phC s e), .int .i64 1]) (results_cell_ph rfl _ _ (w.heap.size + 1) 30 (phC s e) _ _ (by rfl) (by rfl) HZ.out Tryd.underlying30 rfl rph_load) rfl ⟨by rw [HQ.out]; rfl, HBZ.out⟩
  · skip
    by_cases h2 : 1099511627776 < x
    · have HQ : Hid (q0 = (s, e, 1)) := Lib.hid (by rw [HT.out, if_pos (Or.inr h2)])
      go_enter Tryd.func9, Tryd.ntmps9
      have c0 : w0.cell? ⟨w.heap.size, 0, none⟩ = some (.int .i64 s) := HP.out.1.cell 0
      have c1 : w0.cell? ⟨w.heap.size, 1, none⟩ = some (.int .i64 e) := HP.out.1.cell 1
      go_wp2_with (with_reducible (show wpList _ _ _ (Oper.mk _ (Op.store 30 _ _) _ _ _ _ :: _) _ _); refine pause ?_)
      unfold Paused
      rw [← HW.out]
      refine wpList_store_row rfl 30 (.tmp 6) (.tmp 19) rfl (w.heap.size + 1) (phC s e) (by rfl) (by rfl) 30 cR HCR.out rph_load HCS.out (ph_one _ _) ?_
      have HZ : Hid (Blk (w0.setRow (w.heap.size + 1) (phC s e)) (w.heap.size + 1) 30 (phC s e)) := Lib.hid (HCR.out.row _)
      have HBZ : Hid (Below w.heap.size w (w0.setRow (w.heap.size + 1) (phC s e))) := Lib.hid (below_row HP.out.2.2 (by omega) _)
      generalize w0.setRow (w.heap.size + 1) (phC s e) = wz at HZ HBZ
      go_wp2
      exact bodyPost_ret (v := .tuple #[.agg (phC s e), .int .i64 1]) (results_cell_ph rfl _ _ (w.heap.size + 1) 30 (phC s e) _ _ (by rfl) (by rfl) HZ.out Tryd.underlying30 rfl rph_load) rfl ⟨by rw [HQ.out]; rfl, HBZ.out⟩
    · skip
      have hq : q0 = q := by rw [HT.out, if_neg (by omega)]
      subst hq
      clear HT
      go_enter Tryd.func9, Tryd.ntmps9
      go_wp2_with (go_at_call 12; refine pause ?_)
      unfold Paused
      rw [← HW.out]
      refine CR.mono ?_
      rintro r w1 ⟨rfl, hb1⟩
      have HP1 := Lib.hid (HP.out.below hb1)
      clear CR hb1 HCR HCS HW HP
      clear cR
      clear w0
      obtain ⟨cR, hcR, hcs⟩ := HP1.out.2.1
      have HCR := Lib.hid hcR
      have HCS := Lib.hid hcs
      clear hcR hcs
      have c0 : w1.cell? ⟨w.heap.size, 0, none⟩ = some (.int .i64 s) := HP1.out.1.cell 0
      have c1 : w1.cell? ⟨w.heap.size, 1, none⟩ = some (.int .i64 e) := HP1.out.1.cell 1
      cases ρ with
      | false =>
        have HQ : Hid (q0 = (s, e, 4)) := Lib.hid HM.out
        go_wp2_with (with_reducible (show wpList _ _ _ (Oper.mk _ (Op.store 30 _ _) _ _ _ _ :: _) _ _); refine pause ?_)
        unfold Paused
        refine wpList_store_row rfl 30 (.tmp 6) (.tmp 23) rfl (w.heap.size + 1) (phC s e) (by rfl) (by rfl) 30 cR HCR.out rph_load HCS.out (ph_one _ _) ?_
        have HZ : Hid (Blk (w1.setRow (w.heap.size + 1) (phC s e)) (w.heap.size + 1) 30 (phC s e)) := Lib.hid (HCR.out.row _)
        have HBZ : Hid (Below w.heap.size w (w1.setRow (w.heap.size + 1) (phC s e))) := Lib.hid (below_row HP1.out.2.2 (by omega) _)
        generalize w1.setRow (w.heap.size + 1) (phC s e) = wz at HZ HBZ
        go_wp2
        exact bodyPost_ret (v := .tuple #[.agg (phC s e), .int .i64 4]) (results_cell_ph rfl _ _ (w.heap.size + 1) 30 (phC s e) _ _ (by rfl) (by rfl) HZ.out Tryd.underlying30 rfl rph_load) rfl ⟨by rw [HQ.out]; rfl, HBZ.out⟩
      | true =>
        obtain ⟨hs0, hs6, hse⟩ := HRT.out rfl
        have CF := from_any 1 s w1 (by omega) (by omega) hs0 hs6
        rw [show Ph.rows 1 = [0, 1, 2, 3] by rfl] at CF
        have HS0 := Lib.hid hs0
        have HSE := Lib.hid hse
        have HS6 := Lib.hid hs6
        clear hs0 hs6 hse HRT
        obtain ⟨β, hβ⟩ : ∃ β, β = [0, 1, 2, 3].contains s := ⟨_, rfl⟩
        rw [← hβ] at HM CF
        have HBE := Lib.hid hβ
        clear hβ
        go_wp2_with (go_at_call 22; refine pause ?_)
        unfold Paused
        refine CF.mono ?_
        rintro r w2 ⟨rfl, hb2⟩
        have HP2 := Lib.hid (HP1.out.below hb2)
        clear CF hb2 HCR HCS c0 c1 HP1
        clear cR
        obtain ⟨cR, hcR, hcs⟩ := HP2.out.2.1
        have HCR := Lib.hid hcR
        have HCS := Lib.hid hcs
        clear hcR hcs
        have c0 : w2.cell? ⟨w.heap.size, 0, none⟩ = some (.int .i64 s) := HP2.out.1.cell 0
        have c1 : w2.cell? ⟨w.heap.size, 1, none⟩ = some (.int .i64 e) := HP2.out.1.cell 1
        cases β with
        | false =>
          have HQ : Hid (q0 = (s, e, 19)) := Lib.hid (by rw [HM.out]; rfl)
          go_wp2_with (with_reducible (show wpList _ _ _ (Oper.mk _ (Op.store 30 _ _) _ _ _ _ :: _) _ _); refine pause ?_)
          unfold Paused
          refine wpList_store_row rfl 30 (.tmp 6) (.tmp 29) rfl (w.heap.size + 1) (phC s e) (by rfl) (by rfl) 30 cR HCR.out rph_load HCS.out (ph_one _ _) ?_
          have HZ : Hid (Blk (w2.setRow (w.heap.size + 1) (phC s e)) (w.heap.size + 1) 30 (phC s e)) := Lib.hid (HCR.out.row _)
          have HBZ : Hid (Below w.heap.size w (w2.setRow (w.heap.size + 1) (phC s e))) := Lib.hid (below_row HP2.out.2.2 (by omega) _)
          generalize w2.setRow (w.heap.size + 1) (phC s e) = wz at HZ HBZ
          go_wp2
          exact bodyPost_ret (v := .tuple #[.agg (phC s e), .int .i64 19]) (results_cell_ph rfl _ _ (w.heap.size + 1) 30 (phC s e) _ _ (by rfl) (by rfl) HZ.out Tryd.underlying30 rfl rph_load) rfl ⟨by rw [HQ.out]; rfl, HBZ.out⟩
        | true =>
          by_cases h3 : e < x
          · have g3 : ¬ x ≤ e := by omega
            have HQ : Hid (q0 = (2, x, 0)) := Lib.hid (by rw [HM.out, if_neg (by simp), if_neg (by simp), if_neg (by simp [h3])])
            go_wp2_with (with_reducible (show wpList _ _ _ (Oper.mk _ (Op.store 3 _ _) _ _ _ _ :: _) _ _); refine pause ?_)
            unfold Paused
            have HPA : Hid (RPh w (w2.alloc (.cells #[.int .i64 1, .int .i64 2, .int .i64 3, .int .i64 4, .int .i64 5] 3)) s e) := Lib.hid (HP2.out.below ((Below.refl _ _).alloc (Nat.le_refl _) _))
            have HCA : Hid (Blk (w2.alloc (.cells #[.int .i64 1, .int .i64 2, .int .i64 3, .int .i64 4, .int .i64 5] 3)) (w.heap.size + 1) 30 cR) := Lib.hid (HCR.out.alloc _)
            change wpList _ _ _ _ _ (w2.alloc (.cells #[.int .i64 1, .int .i64 2, .int .i64 3, .int .i64 4, .int .i64 5] 3))
            generalize w2.alloc (.cells #[.int .i64 1, .int .i64 2, .int .i64 3, .int .i64 4, .int .i64 5] 3) = wa at HPA HCA
            clear c0 c1
            have c0 : wa.cell? ⟨w.heap.size, 0, none⟩ = some (.int .i64 s) := HPA.out.1.cell 0
            have c1 : wa.cell? ⟨w.heap.size, 1, none⟩ = some (.int .i64 e) := HPA.out.1.cell 1
            have f0 : wa.frozen? ⟨w.heap.size, 0, none⟩ = false := HPA.out.1.frozen 0
            have f1 : (wa.setCell ⟨w.heap.size, 0, none⟩ (.int .i64 2)).frozen? ⟨w.heap.size, 1, none⟩ = false := (HPA.out.1.set_ 0 _).frozen 1
            have HFR : Hid (Blk ((wa.setCell ⟨w.heap.size, 0, none⟩ (.int .i64 2)).setCell ⟨w.heap.size, 1, none⟩ (.int .i64 x)) (w.heap.size + 1) 30 cR) := Lib.hid ((HCA.out.far (show w.heap.size + 1 ≠ w.heap.size by omega) _).far (show w.heap.size + 1 ≠ w.heap.size by omega) _)
            have HBF : Hid (Below w.heap.size w ((wa.setCell ⟨w.heap.size, 0, none⟩ (.int .i64 2)).setCell ⟨w.heap.size, 1, none⟩ (.int .i64 x))) := Lib.hid ((HPA.out.2.2.setCell (show w.heap.size ≤ w.heap.size by omega) _).setCell (show w.heap.size ≤ w.heap.size by omega) _)
            go_wp2_with (with_reducible (show wpList _ _ _ (Oper.mk _ (Op.store 30 _ _) _ _ _ _ :: _) _ _); refine pause ?_)
            unfold Paused
            refine wpList_store_row rfl 30 (.tmp 6) (.tmp 91) rfl (w.heap.size + 1) (phC 2 x) (by rfl) (by rfl) 30 cR HFR.out rph_load HCS.out (ph_one _ _) ?_
            have HZ : Hid (Blk (((wa.setCell ⟨w.heap.size, 0, none⟩ (.int .i64 2)).setCell ⟨w.heap.size, 1, none⟩ (.int .i64 x)).setRow (w.heap.size + 1) (phC 2 x)) (w.heap.size + 1) 30 (phC 2 x)) := Lib.hid (HFR.out.row _)
            have HBZ : Hid (Below w.heap.size w (((wa.setCell ⟨w.heap.size, 0, none⟩ (.int .i64 2)).setCell ⟨w.heap.size, 1, none⟩ (.int .i64 x)).setRow (w.heap.size + 1) (phC 2 x))) := Lib.hid (below_row HBF.out (by omega) _)
            generalize ((wa.setCell ⟨w.heap.size, 0, none⟩ (.int .i64 2)).setCell ⟨w.heap.size, 1, none⟩ (.int .i64 x)).setRow (w.heap.size + 1) (phC 2 x) = wz at HZ HBZ
            go_wp2
            exact bodyPost_ret (v := .tuple #[.agg (phC 2 x), .int .i64 0]) (results_cell_ph rfl _ _ (w.heap.size + 1) 30 (phC 2 x) _ _ (by rfl) (by rfl) HZ.out Tryd.underlying30 rfl rph_load) rfl ⟨by rw [HQ.out]; rfl, HBZ.out⟩
          · have g3 : x ≤ e := by omega
            have HQ : Hid (q0 = (s, e, 18)) := Lib.hid (by rw [HM.out, if_neg (by simp), if_neg (by simp), if_pos (by simp [h3])])
            go_wp2_with (with_reducible (show wpList _ _ _ (Oper.mk _ (Op.store 30 _ _) _ _ _ _ :: _) _ _); refine pause ?_)
            unfold Paused
            refine wpList_store_row rfl 30 (.tmp 6) (.tmp 73) rfl (w.heap.size + 1) (phC s e) (by rfl) (by rfl) 30 cR HCR.out rph_load HCS.out (ph_one _ _) ?_
            have HZ : Hid (Blk (w2.setRow (w.heap.size + 1) (phC s e)) (w.heap.size + 1) 30 (phC s e)) := Lib.hid (HCR.out.row _)
            have HBZ : Hid (Below w.heap.size w (w2.setRow (w.heap.size + 1) (phC s e))) := Lib.hid (below_row HP2.out.2.2 (by omega) _)
            generalize w2.setRow (w.heap.size + 1) (phC s e) = wz at HZ HBZ
            go_wp2
            exact bodyPost_ret (v := .tuple #[.agg (phC s e), .int .i64 18]) (results_cell_ph rfl _ _ (w.heap.size + 1) 30 (phC s e) _ _ (by rfl) (by rfl) HZ.out Tryd.underlying30 rfl rph_load) rfl ⟨by rw [HQ.out]; rfl, HBZ.out⟩
set_option maxRecDepth 100000 in
set_option maxHeartbeats 4000000 in
theorem rdo2_any (s e x : Int) (w : World) : Calls Tryd.prog 9 #[phV s e, .int .i64 2, .int .i64 x] w fun r w' => r = .returned (rOut (Ph.run 2 s e x)) ∧ Below w.heap.size w w' := by
  obtain ⟨w0, hw0, x1, x2, hb0, hz⟩ := two_new w 30 30 (phC s e) (phC 0 0)
  have HP : Hid (RPh w w0 s e) := Lib.hid ⟨x1, ⟨_, x2, rfl⟩, hb0⟩
  have HM : Hid (Ph.move s e 3 x (decide (x = e)) [2] = if Ph.rt s e = false then (s, e, 4) else if [2].contains s = false then (s, e, 19) else if (decide (x = e)) = false then (s, e, 18) else (3, x, 0)) := Lib.hid rfl
  have HT : Hid (Ph.run 2 s e x = if x < 1 ∨ 1099511627776 < x then (s, e, 1) else Ph.move s e 3 x (decide (x = e)) [2]) := Lib.hid rfl
  have HRT : Hid (Ph.rt s e = true → 0 ≤ s ∧ s < 6 ∧ (s = 0 → e = 0)) := Lib.hid (by intro h; simp only [Ph.rt, decide_eq_true_eq] at h; omega)
  have CR := rright_any s e w0
  have HW := Lib.hid hw0
  clear hw0 x1 x2 hb0 hz
  generalize Ph.run 2 s e x = q0 at HT ⊢
  generalize Ph.move s e 3 x (decide (x = e)) [2] = q at HT HM
  generalize Ph.rt s e = ρ at HM HRT CR
  obtain ⟨cR, hcR, hcs⟩ := HP.out.2.1
  have HCR := Lib.hid hcR
  have HCS := Lib.hid hcs
  clear hcR hcs
  unfold phV at CR ⊢
  by_cases h1 : x < 1
  · have HQ : Hid (q0 = (s, e, 1)) := Lib.hid (by rw [HT.out, if_pos (Or.inl h1)])
    go_enter Tryd.func9, Tryd.ntmps9
    have c0 : w0.cell? ⟨w.heap.size, 0, none⟩ = some (.int .i64 s) := HP.out.1.cell 0
    have c1 : w0.cell? ⟨w.heap.size, 1, none⟩ = some (.int .i64 e) := HP.out.1.cell 1
    go_wp2_with (with_reducible (show wpList _ _ _ (Oper.mk _ (Op.store 30 _ _) _ _ _ _ :: _) _ _); refine pause ?_)
    unfold Paused
    rw [← HW.out]
    refine wpList_store_row rfl 30 (.tmp 6) (.tmp 19) rfl (w.heap.size + 1) (phC s e) (by rfl) (by rfl) 30 cR HCR.out rph_load HCS.out (ph_one _ _) ?_
    have HZ : Hid (Blk (w0.setRow (w.heap.size + 1) (phC s e)) (w.heap.size + 1) 30 (phC s e)) := Lib.hid (HCR.out.row _)
    have HBZ : Hid (Below w.heap.size w (w0.setRow (w.heap.size + 1) (phC s e))) := Lib.hid (below_row HP.out.2.2 (by omega) _)
    generalize w0.setRow (w.heap.size + 1) (phC s e) = wz at HZ HBZ
    go_wp2
    exact bodyPost_ret (v := .tuple #[.agg (phC s e), .int .i64 1]) (results_cell_ph rfl _ _ (w.heap.size + 1) 30 (phC s e) _ _ (by rfl) (by rfl) HZ.out Tryd.underlying30 rfl rph_load) rfl ⟨by rw [HQ.out]; rfl, HBZ.out⟩
  · skip
    by_cases h2 : 1099511627776 < x
    · have HQ : Hid (q0 = (s, e, 1)) := Lib.hid (by rw [HT.out, if_pos (Or.inr h2)])
      go_enter Tryd.func9, Tryd.ntmps9
      have c0 : w0.cell? ⟨w.heap.size, 0, none⟩ = some (.int .i64 s) := HP.out.1.cell 0
      have c1 : w0.cell? ⟨w.heap.size, 1, none⟩ = some (.int .i64 e) := HP.out.1.cell 1
      go_wp2_with (with_reducible (show wpList _ _ _ (Oper.mk _ (Op.store 30 _ _) _ _ _ _ :: _) _ _); refine pause ?_)
      unfold Paused
      rw [← HW.out]
      refine wpList_store_row rfl 30 (.tmp 6) (.tmp 19) rfl (w.heap.size + 1) (phC s e) (by rfl) (by rfl) 30 cR HCR.out rph_load HCS.out (ph_one _ _) ?_
      have HZ : Hid (Blk (w0.setRow (w.heap.size + 1) (phC s e)) (w.heap.size + 1) 30 (phC s e)) := Lib.hid (HCR.out.row _)
      have HBZ : Hid (Below w.heap.size w (w0.setRow (w.heap.size + 1) (phC s e))) := Lib.hid (below_row HP.out.2.2 (by omega) _)
      generalize w0.setRow (w.heap.size + 1) (phC s e) = wz at HZ HBZ
      go_wp2
      exact bodyPost_ret (v := .tuple #[.agg (phC s e), .int .i64 1]) (results_cell_ph rfl _ _ (w.heap.size + 1) 30 (phC s e) _ _ (by rfl) (by rfl) HZ.out Tryd.underlying30 rfl rph_load) rfl ⟨by rw [HQ.out]; rfl, HBZ.out⟩
    · skip
      have hq : q0 = q := by rw [HT.out, if_neg (by omega)]
      subst hq
      clear HT
      go_enter Tryd.func9, Tryd.ntmps9
      go_wp2_with (go_at_call 12; refine pause ?_)
      unfold Paused
      rw [← HW.out]
      refine CR.mono ?_
      rintro r w1 ⟨rfl, hb1⟩
      have HP1 := Lib.hid (HP.out.below hb1)
      clear CR hb1 HCR HCS HW HP
      clear cR
      clear w0
      obtain ⟨cR, hcR, hcs⟩ := HP1.out.2.1
      have HCR := Lib.hid hcR
      have HCS := Lib.hid hcs
      clear hcR hcs
      have c0 : w1.cell? ⟨w.heap.size, 0, none⟩ = some (.int .i64 s) := HP1.out.1.cell 0
      have c1 : w1.cell? ⟨w.heap.size, 1, none⟩ = some (.int .i64 e) := HP1.out.1.cell 1
      cases ρ with
      | false =>
        have HQ : Hid (q0 = (s, e, 4)) := Lib.hid HM.out
        go_wp2_with (with_reducible (show wpList _ _ _ (Oper.mk _ (Op.store 30 _ _) _ _ _ _ :: _) _ _); refine pause ?_)
        unfold Paused
        refine wpList_store_row rfl 30 (.tmp 6) (.tmp 23) rfl (w.heap.size + 1) (phC s e) (by rfl) (by rfl) 30 cR HCR.out rph_load HCS.out (ph_one _ _) ?_
        have HZ : Hid (Blk (w1.setRow (w.heap.size + 1) (phC s e)) (w.heap.size + 1) 30 (phC s e)) := Lib.hid (HCR.out.row _)
        have HBZ : Hid (Below w.heap.size w (w1.setRow (w.heap.size + 1) (phC s e))) := Lib.hid (below_row HP1.out.2.2 (by omega) _)
        generalize w1.setRow (w.heap.size + 1) (phC s e) = wz at HZ HBZ
        go_wp2
        exact bodyPost_ret (v := .tuple #[.agg (phC s e), .int .i64 4]) (results_cell_ph rfl _ _ (w.heap.size + 1) 30 (phC s e) _ _ (by rfl) (by rfl) HZ.out Tryd.underlying30 rfl rph_load) rfl ⟨by rw [HQ.out]; rfl, HBZ.out⟩
      | true =>
        obtain ⟨hs0, hs6, hse⟩ := HRT.out rfl
        have CF := from_any 2 s w1 (by omega) (by omega) hs0 hs6
        rw [show Ph.rows 2 = [2] by rfl] at CF
        have HS0 := Lib.hid hs0
        have HSE := Lib.hid hse
        have HS6 := Lib.hid hs6
        clear hs0 hs6 hse HRT
        obtain ⟨β, hβ⟩ : ∃ β, β = [2].contains s := ⟨_, rfl⟩
        rw [← hβ] at HM CF
        have HBE := Lib.hid hβ
        clear hβ
        go_wp2_with (go_at_call 22; refine pause ?_)
        unfold Paused
        refine CF.mono ?_
        rintro r w2 ⟨rfl, hb2⟩
        have HP2 := Lib.hid (HP1.out.below hb2)
        clear CF hb2 HCR HCS c0 c1 HP1
        clear cR
        obtain ⟨cR, hcR, hcs⟩ := HP2.out.2.1
        have HCR := Lib.hid hcR
        have HCS := Lib.hid hcs
        clear hcR hcs
        have c0 : w2.cell? ⟨w.heap.size, 0, none⟩ = some (.int .i64 s) := HP2.out.1.cell 0
        have c1 : w2.cell? ⟨w.heap.size, 1, none⟩ = some (.int .i64 e) := HP2.out.1.cell 1
        cases β with
        | false =>
          have HQ : Hid (q0 = (s, e, 19)) := Lib.hid (by rw [HM.out]; rfl)
          go_wp2_with (with_reducible (show wpList _ _ _ (Oper.mk _ (Op.store 30 _ _) _ _ _ _ :: _) _ _); refine pause ?_)
          unfold Paused
          refine wpList_store_row rfl 30 (.tmp 6) (.tmp 29) rfl (w.heap.size + 1) (phC s e) (by rfl) (by rfl) 30 cR HCR.out rph_load HCS.out (ph_one _ _) ?_
          have HZ : Hid (Blk (w2.setRow (w.heap.size + 1) (phC s e)) (w.heap.size + 1) 30 (phC s e)) := Lib.hid (HCR.out.row _)
          have HBZ : Hid (Below w.heap.size w (w2.setRow (w.heap.size + 1) (phC s e))) := Lib.hid (below_row HP2.out.2.2 (by omega) _)
          generalize w2.setRow (w.heap.size + 1) (phC s e) = wz at HZ HBZ
          go_wp2
          exact bodyPost_ret (v := .tuple #[.agg (phC s e), .int .i64 19]) (results_cell_ph rfl _ _ (w.heap.size + 1) 30 (phC s e) _ _ (by rfl) (by rfl) HZ.out Tryd.underlying30 rfl rph_load) rfl ⟨by rw [HQ.out]; rfl, HBZ.out⟩
        | true =>
          by_cases h3 : x = e
          · subst h3
            have HQ : Hid (q0 = (3, x, 0)) := Lib.hid (by rw [HM.out, if_neg (by simp), if_neg (by simp), if_neg (by simp)])
            go_wp2_with (with_reducible (show wpList _ _ _ (Oper.mk _ (Op.store 3 _ _) _ _ _ _ :: _) _ _); refine pause ?_)
            unfold Paused
            have HPA : Hid (RPh w (w2.alloc (.cells #[.int .i64 1, .int .i64 2, .int .i64 3, .int .i64 4, .int .i64 5] 3)) s x) := Lib.hid (HP2.out.below ((Below.refl _ _).alloc (Nat.le_refl _) _))
            have HCA : Hid (Blk (w2.alloc (.cells #[.int .i64 1, .int .i64 2, .int .i64 3, .int .i64 4, .int .i64 5] 3)) (w.heap.size + 1) 30 cR) := Lib.hid (HCR.out.alloc _)
            change wpList _ _ _ _ _ (w2.alloc (.cells #[.int .i64 1, .int .i64 2, .int .i64 3, .int .i64 4, .int .i64 5] 3))
            generalize w2.alloc (.cells #[.int .i64 1, .int .i64 2, .int .i64 3, .int .i64 4, .int .i64 5] 3) = wa at HPA HCA
            clear c0 c1
            have c0 : wa.cell? ⟨w.heap.size, 0, none⟩ = some (.int .i64 s) := HPA.out.1.cell 0
            have c1 : wa.cell? ⟨w.heap.size, 1, none⟩ = some (.int .i64 x) := HPA.out.1.cell 1
            have f0 : wa.frozen? ⟨w.heap.size, 0, none⟩ = false := HPA.out.1.frozen 0
            have f1 : (wa.setCell ⟨w.heap.size, 0, none⟩ (.int .i64 3)).frozen? ⟨w.heap.size, 1, none⟩ = false := (HPA.out.1.set_ 0 _).frozen 1
            have HFR : Hid (Blk (wa.setCell ⟨w.heap.size, 0, none⟩ (.int .i64 3)) (w.heap.size + 1) 30 cR) := Lib.hid (HCA.out.far (show w.heap.size + 1 ≠ w.heap.size by omega) _)
            have HBF : Hid (Below w.heap.size w (wa.setCell ⟨w.heap.size, 0, none⟩ (.int .i64 3))) := Lib.hid (HPA.out.2.2.setCell (show w.heap.size ≤ w.heap.size by omega) _)
            go_wp2_with (with_reducible (show wpList _ _ _ (Oper.mk _ (Op.store 30 _ _) _ _ _ _ :: _) _ _); refine pause ?_)
            unfold Paused
            refine wpList_store_row rfl 30 (.tmp 6) (.tmp 91) rfl (w.heap.size + 1) (phC 3 x) (by rfl) (by rfl) 30 cR HFR.out rph_load HCS.out (ph_one _ _) ?_
            have HZ : Hid (Blk ((wa.setCell ⟨w.heap.size, 0, none⟩ (.int .i64 3)).setRow (w.heap.size + 1) (phC 3 x)) (w.heap.size + 1) 30 (phC 3 x)) := Lib.hid (HFR.out.row _)
            have HBZ : Hid (Below w.heap.size w ((wa.setCell ⟨w.heap.size, 0, none⟩ (.int .i64 3)).setRow (w.heap.size + 1) (phC 3 x))) := Lib.hid (below_row HBF.out (by omega) _)
            generalize (wa.setCell ⟨w.heap.size, 0, none⟩ (.int .i64 3)).setRow (w.heap.size + 1) (phC 3 x) = wz at HZ HBZ
            go_wp2
            exact bodyPost_ret (v := .tuple #[.agg (phC 3 x), .int .i64 0]) (results_cell_ph rfl _ _ (w.heap.size + 1) 30 (phC 3 x) _ _ (by rfl) (by rfl) HZ.out Tryd.underlying30 rfl rph_load) rfl ⟨by rw [HQ.out]; rfl, HBZ.out⟩
          · have g3 : (x == e) = false := by simpa using h3
            have HQ : Hid (q0 = (s, e, 18)) := Lib.hid (by rw [HM.out, if_neg (by simp), if_neg (by simp), if_pos (by simp [h3])])
            go_wp2_with (with_reducible (show wpList _ _ _ (Oper.mk _ (Op.store 30 _ _) _ _ _ _ :: _) _ _); refine pause ?_)
            unfold Paused
            refine wpList_store_row rfl 30 (.tmp 6) (.tmp 73) rfl (w.heap.size + 1) (phC s e) (by rfl) (by rfl) 30 cR HCR.out rph_load HCS.out (ph_one _ _) ?_
            have HZ : Hid (Blk (w2.setRow (w.heap.size + 1) (phC s e)) (w.heap.size + 1) 30 (phC s e)) := Lib.hid (HCR.out.row _)
            have HBZ : Hid (Below w.heap.size w (w2.setRow (w.heap.size + 1) (phC s e))) := Lib.hid (below_row HP2.out.2.2 (by omega) _)
            generalize w2.setRow (w.heap.size + 1) (phC s e) = wz at HZ HBZ
            go_wp2
            exact bodyPost_ret (v := .tuple #[.agg (phC s e), .int .i64 18]) (results_cell_ph rfl _ _ (w.heap.size + 1) 30 (phC s e) _ _ (by rfl) (by rfl) HZ.out Tryd.underlying30 rfl rph_load) rfl ⟨by rw [HQ.out]; rfl, HBZ.out⟩
set_option maxRecDepth 100000 in
set_option maxHeartbeats 4000000 in
theorem rdo3_any (s e x : Int) (w : World) : Calls Tryd.prog 9 #[phV s e, .int .i64 3, .int .i64 x] w fun r w' => r = .returned (rOut (Ph.run 3 s e x)) ∧ Below w.heap.size w w' := by
  obtain ⟨w0, hw0, x1, x2, hb0, hz⟩ := two_new w 30 30 (phC s e) (phC 0 0)
  have HP : Hid (RPh w w0 s e) := Lib.hid ⟨x1, ⟨_, x2, rfl⟩, hb0⟩
  have HM : Hid (Ph.move s e 4 x (decide (e < x)) [1, 2, 3, 4] = if Ph.rt s e = false then (s, e, 4) else if [1, 2, 3, 4].contains s = false then (s, e, 19) else if (decide (e < x)) = false then (s, e, 18) else (4, x, 0)) := Lib.hid rfl
  have HT : Hid (Ph.run 3 s e x = if x < 1 ∨ 1099511627776 < x then (s, e, 1) else Ph.move s e 4 x (decide (e < x)) [1, 2, 3, 4]) := Lib.hid rfl
  have HRT : Hid (Ph.rt s e = true → 0 ≤ s ∧ s < 6 ∧ (s = 0 → e = 0)) := Lib.hid (by intro h; simp only [Ph.rt, decide_eq_true_eq] at h; omega)
  have CR := rright_any s e w0
  have HW := Lib.hid hw0
  clear hw0 x1 x2 hb0 hz
  generalize Ph.run 3 s e x = q0 at HT ⊢
  generalize Ph.move s e 4 x (decide (e < x)) [1, 2, 3, 4] = q at HT HM
  generalize Ph.rt s e = ρ at HM HRT CR
  obtain ⟨cR, hcR, hcs⟩ := HP.out.2.1
  have HCR := Lib.hid hcR
  have HCS := Lib.hid hcs
  clear hcR hcs
  unfold phV at CR ⊢
  by_cases h1 : x < 1
  · have HQ : Hid (q0 = (s, e, 1)) := Lib.hid (by rw [HT.out, if_pos (Or.inl h1)])
    go_enter Tryd.func9, Tryd.ntmps9
    have c0 : w0.cell? ⟨w.heap.size, 0, none⟩ = some (.int .i64 s) := HP.out.1.cell 0
    have c1 : w0.cell? ⟨w.heap.size, 1, none⟩ = some (.int .i64 e) := HP.out.1.cell 1
    go_wp2_with (with_reducible (show wpList _ _ _ (Oper.mk _ (Op.store 30 _ _) _ _ _ _ :: _) _ _); refine pause ?_)
    unfold Paused
    rw [← HW.out]
    refine wpList_store_row rfl 30 (.tmp 6) (.tmp 19) rfl (w.heap.size + 1) (phC s e) (by rfl) (by rfl) 30 cR HCR.out rph_load HCS.out (ph_one _ _) ?_
    have HZ : Hid (Blk (w0.setRow (w.heap.size + 1) (phC s e)) (w.heap.size + 1) 30 (phC s e)) := Lib.hid (HCR.out.row _)
    have HBZ : Hid (Below w.heap.size w (w0.setRow (w.heap.size + 1) (phC s e))) := Lib.hid (below_row HP.out.2.2 (by omega) _)
    generalize w0.setRow (w.heap.size + 1) (phC s e) = wz at HZ HBZ
    go_wp2
    exact bodyPost_ret (v := .tuple #[.agg (phC s e), .int .i64 1]) (results_cell_ph rfl _ _ (w.heap.size + 1) 30 (phC s e) _ _ (by rfl) (by rfl) HZ.out Tryd.underlying30 rfl rph_load) rfl ⟨by rw [HQ.out]; rfl, HBZ.out⟩
  · skip
    by_cases h2 : 1099511627776 < x
    · have HQ : Hid (q0 = (s, e, 1)) := Lib.hid (by rw [HT.out, if_pos (Or.inr h2)])
      go_enter Tryd.func9, Tryd.ntmps9
      have c0 : w0.cell? ⟨w.heap.size, 0, none⟩ = some (.int .i64 s) := HP.out.1.cell 0
      have c1 : w0.cell? ⟨w.heap.size, 1, none⟩ = some (.int .i64 e) := HP.out.1.cell 1
      go_wp2_with (with_reducible (show wpList _ _ _ (Oper.mk _ (Op.store 30 _ _) _ _ _ _ :: _) _ _); refine pause ?_)
      unfold Paused
      rw [← HW.out]
      refine wpList_store_row rfl 30 (.tmp 6) (.tmp 19) rfl (w.heap.size + 1) (phC s e) (by rfl) (by rfl) 30 cR HCR.out rph_load HCS.out (ph_one _ _) ?_
      have HZ : Hid (Blk (w0.setRow (w.heap.size + 1) (phC s e)) (w.heap.size + 1) 30 (phC s e)) := Lib.hid (HCR.out.row _)
      have HBZ : Hid (Below w.heap.size w (w0.setRow (w.heap.size + 1) (phC s e))) := Lib.hid (below_row HP.out.2.2 (by omega) _)
      generalize w0.setRow (w.heap.size + 1) (phC s e) = wz at HZ HBZ
      go_wp2
      exact bodyPost_ret (v := .tuple #[.agg (phC s e), .int .i64 1]) (results_cell_ph rfl _ _ (w.heap.size + 1) 30 (phC s e) _ _ (by rfl) (by rfl) HZ.out Tryd.underlying30 rfl rph_load) rfl ⟨by rw [HQ.out]; rfl, HBZ.out⟩
    · skip
      have hq : q0 = q := by rw [HT.out, if_neg (by omega)]
      subst hq
      clear HT
      go_enter Tryd.func9, Tryd.ntmps9
      go_wp2_with (go_at_call 12; refine pause ?_)
      unfold Paused
      rw [← HW.out]
      refine CR.mono ?_
      rintro r w1 ⟨rfl, hb1⟩
      have HP1 := Lib.hid (HP.out.below hb1)
      clear CR hb1 HCR HCS HW HP
      clear cR
      clear w0
      obtain ⟨cR, hcR, hcs⟩ := HP1.out.2.1
      have HCR := Lib.hid hcR
      have HCS := Lib.hid hcs
      clear hcR hcs
      have c0 : w1.cell? ⟨w.heap.size, 0, none⟩ = some (.int .i64 s) := HP1.out.1.cell 0
      have c1 : w1.cell? ⟨w.heap.size, 1, none⟩ = some (.int .i64 e) := HP1.out.1.cell 1
      cases ρ with
      | false =>
        have HQ : Hid (q0 = (s, e, 4)) := Lib.hid HM.out
        go_wp2_with (with_reducible (show wpList _ _ _ (Oper.mk _ (Op.store 30 _ _) _ _ _ _ :: _) _ _); refine pause ?_)
        unfold Paused
        refine wpList_store_row rfl 30 (.tmp 6) (.tmp 23) rfl (w.heap.size + 1) (phC s e) (by rfl) (by rfl) 30 cR HCR.out rph_load HCS.out (ph_one _ _) ?_
        have HZ : Hid (Blk (w1.setRow (w.heap.size + 1) (phC s e)) (w.heap.size + 1) 30 (phC s e)) := Lib.hid (HCR.out.row _)
        have HBZ : Hid (Below w.heap.size w (w1.setRow (w.heap.size + 1) (phC s e))) := Lib.hid (below_row HP1.out.2.2 (by omega) _)
        generalize w1.setRow (w.heap.size + 1) (phC s e) = wz at HZ HBZ
        go_wp2
        exact bodyPost_ret (v := .tuple #[.agg (phC s e), .int .i64 4]) (results_cell_ph rfl _ _ (w.heap.size + 1) 30 (phC s e) _ _ (by rfl) (by rfl) HZ.out Tryd.underlying30 rfl rph_load) rfl ⟨by rw [HQ.out]; rfl, HBZ.out⟩
      | true =>
        obtain ⟨hs0, hs6, hse⟩ := HRT.out rfl
        have CF := from_any 3 s w1 (by omega) (by omega) hs0 hs6
        rw [show Ph.rows 3 = [1, 2, 3, 4] by rfl] at CF
        have HS0 := Lib.hid hs0
        have HSE := Lib.hid hse
        have HS6 := Lib.hid hs6
        clear hs0 hs6 hse HRT
        obtain ⟨β, hβ⟩ : ∃ β, β = [1, 2, 3, 4].contains s := ⟨_, rfl⟩
        rw [← hβ] at HM CF
        have HBE := Lib.hid hβ
        clear hβ
        go_wp2_with (go_at_call 22; refine pause ?_)
        unfold Paused
        refine CF.mono ?_
        rintro r w2 ⟨rfl, hb2⟩
        have HP2 := Lib.hid (HP1.out.below hb2)
        clear CF hb2 HCR HCS c0 c1 HP1
        clear cR
        obtain ⟨cR, hcR, hcs⟩ := HP2.out.2.1
        have HCR := Lib.hid hcR
        have HCS := Lib.hid hcs
        clear hcR hcs
        have c0 : w2.cell? ⟨w.heap.size, 0, none⟩ = some (.int .i64 s) := HP2.out.1.cell 0
        have c1 : w2.cell? ⟨w.heap.size, 1, none⟩ = some (.int .i64 e) := HP2.out.1.cell 1
        cases β with
        | false =>
          have HQ : Hid (q0 = (s, e, 19)) := Lib.hid (by rw [HM.out]; rfl)
          go_wp2_with (with_reducible (show wpList _ _ _ (Oper.mk _ (Op.store 30 _ _) _ _ _ _ :: _) _ _); refine pause ?_)
          unfold Paused
          refine wpList_store_row rfl 30 (.tmp 6) (.tmp 29) rfl (w.heap.size + 1) (phC s e) (by rfl) (by rfl) 30 cR HCR.out rph_load HCS.out (ph_one _ _) ?_
          have HZ : Hid (Blk (w2.setRow (w.heap.size + 1) (phC s e)) (w.heap.size + 1) 30 (phC s e)) := Lib.hid (HCR.out.row _)
          have HBZ : Hid (Below w.heap.size w (w2.setRow (w.heap.size + 1) (phC s e))) := Lib.hid (below_row HP2.out.2.2 (by omega) _)
          generalize w2.setRow (w.heap.size + 1) (phC s e) = wz at HZ HBZ
          go_wp2
          exact bodyPost_ret (v := .tuple #[.agg (phC s e), .int .i64 19]) (results_cell_ph rfl _ _ (w.heap.size + 1) 30 (phC s e) _ _ (by rfl) (by rfl) HZ.out Tryd.underlying30 rfl rph_load) rfl ⟨by rw [HQ.out]; rfl, HBZ.out⟩
        | true =>
          by_cases h3 : e < x
          · have g3 : ¬ x ≤ e := by omega
            have HQ : Hid (q0 = (4, x, 0)) := Lib.hid (by rw [HM.out, if_neg (by simp), if_neg (by simp), if_neg (by simp [h3])])
            go_wp2_with (with_reducible (show wpList _ _ _ (Oper.mk _ (Op.store 3 _ _) _ _ _ _ :: _) _ _); refine pause ?_)
            unfold Paused
            have HPA : Hid (RPh w (w2.alloc (.cells #[.int .i64 1, .int .i64 2, .int .i64 3, .int .i64 4, .int .i64 5] 3)) s e) := Lib.hid (HP2.out.below ((Below.refl _ _).alloc (Nat.le_refl _) _))
            have HCA : Hid (Blk (w2.alloc (.cells #[.int .i64 1, .int .i64 2, .int .i64 3, .int .i64 4, .int .i64 5] 3)) (w.heap.size + 1) 30 cR) := Lib.hid (HCR.out.alloc _)
            change wpList _ _ _ _ _ (w2.alloc (.cells #[.int .i64 1, .int .i64 2, .int .i64 3, .int .i64 4, .int .i64 5] 3))
            generalize w2.alloc (.cells #[.int .i64 1, .int .i64 2, .int .i64 3, .int .i64 4, .int .i64 5] 3) = wa at HPA HCA
            clear c0 c1
            have c0 : wa.cell? ⟨w.heap.size, 0, none⟩ = some (.int .i64 s) := HPA.out.1.cell 0
            have c1 : wa.cell? ⟨w.heap.size, 1, none⟩ = some (.int .i64 e) := HPA.out.1.cell 1
            have f0 : wa.frozen? ⟨w.heap.size, 0, none⟩ = false := HPA.out.1.frozen 0
            have f1 : (wa.setCell ⟨w.heap.size, 0, none⟩ (.int .i64 4)).frozen? ⟨w.heap.size, 1, none⟩ = false := (HPA.out.1.set_ 0 _).frozen 1
            have HFR : Hid (Blk ((wa.setCell ⟨w.heap.size, 0, none⟩ (.int .i64 4)).setCell ⟨w.heap.size, 1, none⟩ (.int .i64 x)) (w.heap.size + 1) 30 cR) := Lib.hid ((HCA.out.far (show w.heap.size + 1 ≠ w.heap.size by omega) _).far (show w.heap.size + 1 ≠ w.heap.size by omega) _)
            have HBF : Hid (Below w.heap.size w ((wa.setCell ⟨w.heap.size, 0, none⟩ (.int .i64 4)).setCell ⟨w.heap.size, 1, none⟩ (.int .i64 x))) := Lib.hid ((HPA.out.2.2.setCell (show w.heap.size ≤ w.heap.size by omega) _).setCell (show w.heap.size ≤ w.heap.size by omega) _)
            go_wp2_with (with_reducible (show wpList _ _ _ (Oper.mk _ (Op.store 30 _ _) _ _ _ _ :: _) _ _); refine pause ?_)
            unfold Paused
            refine wpList_store_row rfl 30 (.tmp 6) (.tmp 91) rfl (w.heap.size + 1) (phC 4 x) (by rfl) (by rfl) 30 cR HFR.out rph_load HCS.out (ph_one _ _) ?_
            have HZ : Hid (Blk (((wa.setCell ⟨w.heap.size, 0, none⟩ (.int .i64 4)).setCell ⟨w.heap.size, 1, none⟩ (.int .i64 x)).setRow (w.heap.size + 1) (phC 4 x)) (w.heap.size + 1) 30 (phC 4 x)) := Lib.hid (HFR.out.row _)
            have HBZ : Hid (Below w.heap.size w (((wa.setCell ⟨w.heap.size, 0, none⟩ (.int .i64 4)).setCell ⟨w.heap.size, 1, none⟩ (.int .i64 x)).setRow (w.heap.size + 1) (phC 4 x))) := Lib.hid (below_row HBF.out (by omega) _)
            generalize ((wa.setCell ⟨w.heap.size, 0, none⟩ (.int .i64 4)).setCell ⟨w.heap.size, 1, none⟩ (.int .i64 x)).setRow (w.heap.size + 1) (phC 4 x) = wz at HZ HBZ
            go_wp2
            exact bodyPost_ret (v := .tuple #[.agg (phC 4 x), .int .i64 0]) (results_cell_ph rfl _ _ (w.heap.size + 1) 30 (phC 4 x) _ _ (by rfl) (by rfl) HZ.out Tryd.underlying30 rfl rph_load) rfl ⟨by rw [HQ.out]; rfl, HBZ.out⟩
          · have g3 : x ≤ e := by omega
            have HQ : Hid (q0 = (s, e, 18)) := Lib.hid (by rw [HM.out, if_neg (by simp), if_neg (by simp), if_pos (by simp [h3])])
            go_wp2_with (with_reducible (show wpList _ _ _ (Oper.mk _ (Op.store 30 _ _) _ _ _ _ :: _) _ _); refine pause ?_)
            unfold Paused
            refine wpList_store_row rfl 30 (.tmp 6) (.tmp 73) rfl (w.heap.size + 1) (phC s e) (by rfl) (by rfl) 30 cR HCR.out rph_load HCS.out (ph_one _ _) ?_
            have HZ : Hid (Blk (w2.setRow (w.heap.size + 1) (phC s e)) (w.heap.size + 1) 30 (phC s e)) := Lib.hid (HCR.out.row _)
            have HBZ : Hid (Below w.heap.size w (w2.setRow (w.heap.size + 1) (phC s e))) := Lib.hid (below_row HP2.out.2.2 (by omega) _)
            generalize w2.setRow (w.heap.size + 1) (phC s e) = wz at HZ HBZ
            go_wp2
            exact bodyPost_ret (v := .tuple #[.agg (phC s e), .int .i64 18]) (results_cell_ph rfl _ _ (w.heap.size + 1) 30 (phC s e) _ _ (by rfl) (by rfl) HZ.out Tryd.underlying30 rfl rph_load) rfl ⟨by rw [HQ.out]; rfl, HBZ.out⟩
set_option maxRecDepth 100000 in
set_option maxHeartbeats 4000000 in
theorem rdo4_any (s e x : Int) (w : World) : Calls Tryd.prog 9 #[phV s e, .int .i64 4, .int .i64 x] w fun r w' => r = .returned (rOut (Ph.run 4 s e x)) ∧ Below w.heap.size w w' := by
  obtain ⟨w0, hw0, x1, x2, hb0, hz⟩ := two_new w 30 30 (phC s e) (phC 0 0)
  have HP : Hid (RPh w w0 s e) := Lib.hid ⟨x1, ⟨_, x2, rfl⟩, hb0⟩
  have HM : Hid (Ph.move s e 5 e true [4] = if Ph.rt s e = false then (s, e, 4) else if [4].contains s = false then (s, e, 19) else if true = false then (s, e, 18) else (5, e, 0)) := Lib.hid rfl
  have HT : Hid (Ph.run 4 s e x = Ph.move s e 5 e true [4]) := Lib.hid rfl
  have HRT : Hid (Ph.rt s e = true → 0 ≤ s ∧ s < 6 ∧ (s = 0 → e = 0)) := Lib.hid (by intro h; simp only [Ph.rt, decide_eq_true_eq] at h; omega)
  have CR := rright_any s e w0
  have HW := Lib.hid hw0
  clear hw0 x1 x2 hb0 hz
  generalize Ph.run 4 s e x = q0 at HT ⊢
  generalize Ph.move s e 5 e true [4] = q at HT HM
  generalize Ph.rt s e = ρ at HM HRT CR
  obtain ⟨cR, hcR, hcs⟩ := HP.out.2.1
  have HCR := Lib.hid hcR
  have HCS := Lib.hid hcs
  clear hcR hcs
  unfold phV at CR ⊢
  have hq : q0 = q := HT.out
  subst hq
  clear HT
  go_enter Tryd.func9, Tryd.ntmps9
  go_wp2_with (go_at_call 12; refine pause ?_)
  unfold Paused
  rw [← HW.out]
  refine CR.mono ?_
  rintro r w1 ⟨rfl, hb1⟩
  have HP1 := Lib.hid (HP.out.below hb1)
  clear CR hb1 HCR HCS HW HP
  clear cR
  clear w0
  obtain ⟨cR, hcR, hcs⟩ := HP1.out.2.1
  have HCR := Lib.hid hcR
  have HCS := Lib.hid hcs
  clear hcR hcs
  have c0 : w1.cell? ⟨w.heap.size, 0, none⟩ = some (.int .i64 s) := HP1.out.1.cell 0
  have c1 : w1.cell? ⟨w.heap.size, 1, none⟩ = some (.int .i64 e) := HP1.out.1.cell 1
  cases ρ with
  | false =>
    have HQ : Hid (q0 = (s, e, 4)) := Lib.hid HM.out
    go_wp2_with (with_reducible (show wpList _ _ _ (Oper.mk _ (Op.store 30 _ _) _ _ _ _ :: _) _ _); refine pause ?_)
    unfold Paused
    refine wpList_store_row rfl 30 (.tmp 6) (.tmp 23) rfl (w.heap.size + 1) (phC s e) (by rfl) (by rfl) 30 cR HCR.out rph_load HCS.out (ph_one _ _) ?_
    have HZ : Hid (Blk (w1.setRow (w.heap.size + 1) (phC s e)) (w.heap.size + 1) 30 (phC s e)) := Lib.hid (HCR.out.row _)
    have HBZ : Hid (Below w.heap.size w (w1.setRow (w.heap.size + 1) (phC s e))) := Lib.hid (below_row HP1.out.2.2 (by omega) _)
    generalize w1.setRow (w.heap.size + 1) (phC s e) = wz at HZ HBZ
    go_wp2
    exact bodyPost_ret (v := .tuple #[.agg (phC s e), .int .i64 4]) (results_cell_ph rfl _ _ (w.heap.size + 1) 30 (phC s e) _ _ (by rfl) (by rfl) HZ.out Tryd.underlying30 rfl rph_load) rfl ⟨by rw [HQ.out]; rfl, HBZ.out⟩
  | true =>
    obtain ⟨hs0, hs6, hse⟩ := HRT.out rfl
    have CF := from_any 4 s w1 (by omega) (by omega) hs0 hs6
    rw [show Ph.rows 4 = [4] by rfl] at CF
    have HS0 := Lib.hid hs0
    have HSE := Lib.hid hse
    have HS6 := Lib.hid hs6
    clear hs0 hs6 hse HRT
    obtain ⟨β, hβ⟩ : ∃ β, β = [4].contains s := ⟨_, rfl⟩
    rw [← hβ] at HM CF
    have HBE := Lib.hid hβ
    clear hβ
    go_wp2_with (go_at_call 22; refine pause ?_)
    unfold Paused
    refine CF.mono ?_
    rintro r w2 ⟨rfl, hb2⟩
    have HP2 := Lib.hid (HP1.out.below hb2)
    clear CF hb2 HCR HCS c0 c1 HP1
    clear cR
    obtain ⟨cR, hcR, hcs⟩ := HP2.out.2.1
    have HCR := Lib.hid hcR
    have HCS := Lib.hid hcs
    clear hcR hcs
    have c0 : w2.cell? ⟨w.heap.size, 0, none⟩ = some (.int .i64 s) := HP2.out.1.cell 0
    have c1 : w2.cell? ⟨w.heap.size, 1, none⟩ = some (.int .i64 e) := HP2.out.1.cell 1
    cases β with
    | false =>
      have HQ : Hid (q0 = (s, e, 19)) := Lib.hid (by rw [HM.out]; rfl)
      go_wp2_with (with_reducible (show wpList _ _ _ (Oper.mk _ (Op.store 30 _ _) _ _ _ _ :: _) _ _); refine pause ?_)
      unfold Paused
      refine wpList_store_row rfl 30 (.tmp 6) (.tmp 29) rfl (w.heap.size + 1) (phC s e) (by rfl) (by rfl) 30 cR HCR.out rph_load HCS.out (ph_one _ _) ?_
      have HZ : Hid (Blk (w2.setRow (w.heap.size + 1) (phC s e)) (w.heap.size + 1) 30 (phC s e)) := Lib.hid (HCR.out.row _)
      have HBZ : Hid (Below w.heap.size w (w2.setRow (w.heap.size + 1) (phC s e))) := Lib.hid (below_row HP2.out.2.2 (by omega) _)
      generalize w2.setRow (w.heap.size + 1) (phC s e) = wz at HZ HBZ
      go_wp2
      exact bodyPost_ret (v := .tuple #[.agg (phC s e), .int .i64 19]) (results_cell_ph rfl _ _ (w.heap.size + 1) 30 (phC s e) _ _ (by rfl) (by rfl) HZ.out Tryd.underlying30 rfl rph_load) rfl ⟨by rw [HQ.out]; rfl, HBZ.out⟩
    | true =>
      have HQ : Hid (q0 = (5, e, 0)) := Lib.hid (by rw [HM.out]; rfl)
      go_wp2_with (with_reducible (show wpList _ _ _ (Oper.mk _ (Op.store 3 _ _) _ _ _ _ :: _) _ _); refine pause ?_)
      unfold Paused
      have HPA : Hid (RPh w (w2.alloc (.cells #[.int .i64 1, .int .i64 2, .int .i64 3, .int .i64 4, .int .i64 5] 3)) s e) := Lib.hid (HP2.out.below ((Below.refl _ _).alloc (Nat.le_refl _) _))
      have HCA : Hid (Blk (w2.alloc (.cells #[.int .i64 1, .int .i64 2, .int .i64 3, .int .i64 4, .int .i64 5] 3)) (w.heap.size + 1) 30 cR) := Lib.hid (HCR.out.alloc _)
      change wpList _ _ _ _ _ (w2.alloc (.cells #[.int .i64 1, .int .i64 2, .int .i64 3, .int .i64 4, .int .i64 5] 3))
      generalize w2.alloc (.cells #[.int .i64 1, .int .i64 2, .int .i64 3, .int .i64 4, .int .i64 5] 3) = wa at HPA HCA
      clear c0 c1
      have c0 : wa.cell? ⟨w.heap.size, 0, none⟩ = some (.int .i64 s) := HPA.out.1.cell 0
      have c1 : wa.cell? ⟨w.heap.size, 1, none⟩ = some (.int .i64 e) := HPA.out.1.cell 1
      have f0 : wa.frozen? ⟨w.heap.size, 0, none⟩ = false := HPA.out.1.frozen 0
      have f1 : (wa.setCell ⟨w.heap.size, 0, none⟩ (.int .i64 5)).frozen? ⟨w.heap.size, 1, none⟩ = false := (HPA.out.1.set_ 0 _).frozen 1
      have HFR : Hid (Blk (wa.setCell ⟨w.heap.size, 0, none⟩ (.int .i64 5)) (w.heap.size + 1) 30 cR) := Lib.hid (HCA.out.far (show w.heap.size + 1 ≠ w.heap.size by omega) _)
      have HBF : Hid (Below w.heap.size w (wa.setCell ⟨w.heap.size, 0, none⟩ (.int .i64 5))) := Lib.hid (HPA.out.2.2.setCell (show w.heap.size ≤ w.heap.size by omega) _)
      go_wp2_with (with_reducible (show wpList _ _ _ (Oper.mk _ (Op.store 30 _ _) _ _ _ _ :: _) _ _); refine pause ?_)
      unfold Paused
      refine wpList_store_row rfl 30 (.tmp 6) (.tmp 91) rfl (w.heap.size + 1) (phC 5 e) (by rfl) (by rfl) 30 cR HFR.out rph_load HCS.out (ph_one _ _) ?_
      have HZ : Hid (Blk ((wa.setCell ⟨w.heap.size, 0, none⟩ (.int .i64 5)).setRow (w.heap.size + 1) (phC 5 e)) (w.heap.size + 1) 30 (phC 5 e)) := Lib.hid (HFR.out.row _)
      have HBZ : Hid (Below w.heap.size w ((wa.setCell ⟨w.heap.size, 0, none⟩ (.int .i64 5)).setRow (w.heap.size + 1) (phC 5 e))) := Lib.hid (below_row HBF.out (by omega) _)
      generalize (wa.setCell ⟨w.heap.size, 0, none⟩ (.int .i64 5)).setRow (w.heap.size + 1) (phC 5 e) = wz at HZ HBZ
      go_wp2
      exact bodyPost_ret (v := .tuple #[.agg (phC 5 e), .int .i64 0]) (results_cell_ph rfl _ _ (w.heap.size + 1) 30 (phC 5 e) _ _ (by rfl) (by rfl) HZ.out Tryd.underlying30 rfl rph_load) rfl ⟨by rw [HQ.out]; rfl, HBZ.out⟩
end Go.Proofs.YtagplmlhpocbjaaDoor
