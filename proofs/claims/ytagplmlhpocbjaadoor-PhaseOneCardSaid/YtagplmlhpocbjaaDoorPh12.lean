/- The law PhaseOne. -/
import Derived.Test.YtagplmlhpocbjaaDoorPh11
namespace Go.Proofs.YtagplmlhpocbjaaDoor
open Go Go.RowKit
set_option maxRecDepth 100000 in
set_option maxHeartbeats 8000000 in
theorem pone_law (s e : Int) (v : Value) (xs : List Int) (a : Nat → Addr) (w : World) (h : RdI w v xs) (hS : Sents w a) :
    Calls Tryd.prog 6 #[phV s e, v] w fun e w' => e = .returned (.bool true) ∧ Below w.heap.size w w' := by
  obtain ⟨w0, hw0⟩ : ∃ w0, w0 = w.alloc (.cells (phC s e) 23) := ⟨_, rfl⟩
  have HP0 : Hid (PhL w w.heap.size s e w0) := Lib.hid ⟨hw0 ▸ Blk.new w _ _, hw0 ▸ (Below.refl _ _).alloc (Nat.le_refl _) _⟩
  have CA := phalive_any a w0 (hS.below HP0.out.2 (Nat.le_refl _))
  have HS := Lib.hid hS
  have HW := Lib.hid hw0
  obtain ⟨A, c, rfl, _, hA⟩ := h
  have HA := Lib.hid hA
  obtain ⟨n, hn⟩ : ∃ n, n = xs.length := ⟨_, rfl⟩
  rw [← hn] at HA ⊢
  have HN := Lib.hid hn
  clear hw0 hS hA hn
  have HCA : Hid (∀ x W, PhL w w.heap.size s e W → Calls Tryd.prog 15 #[.agg (phC s e), .int .i64 x] W fun r w' => r = .returned (erV a (Ph.admit s e x)) ∧ PhL w w.heap.size s e w') := Lib.hid (fun x W h => (admit_any s e x a W (HS.out.below h.2 (Nat.le_refl _))).mono fun r w' k => ⟨k.1, h.below k.2⟩)
  have HCW : Hid (∀ W, PhL w w.heap.size s e W → Calls Tryd.prog 14 #[.agg (phC s e)] W fun r w' => r = .returned (.bool (s == 2)) ∧ PhL w w.heap.size s e w') := Lib.hid (fun W h => (writes_any s e W).mono fun r w' k => ⟨k.1, h.below k.2⟩)
  have HCR : Hid (∀ W, PhL w w.heap.size s e W → Calls Tryd.prog 11 #[.agg (phC s e)] W fun r w' => r = .returned (.bool (Ph.rt s e)) ∧ PhL w w.heap.size s e w') := Lib.hid (fun W h => (right_any s e W).mono fun r w' k => ⟨k.1, h.below k.2⟩)
  unfold phV
  go_enter Tryd.func6, Tryd.ntmps6
  go_wp2_with (go_at_call 7; refine pause ?_)
  unfold Paused
  rw [← HW.out]
  refine CA.mono ?_
  rintro r w1 ⟨rfl, hb1⟩
  have HP1 := Lib.hid (HP0.out.below hb1)
  clear CA hb1 HW HP0
  clear w0
  by_cases h60 : n ≤ 60
  · have g60 : ¬ (60 : Int) < n := by omega
    go_wp2_with fail
    go_loopw [5, 6, 18] (fun d o i wr => ∃ (k : Nat) (dv : Int) (ov : Bool), k ≤ n ∧ i = .int .i64 k ∧ d = .int .i64 dv ∧ o = .bool ov ∧ Hid (PhL w w.heap.size s e wr) ∧ Hid (ov = true → dv = e)) (fun _ _ i _ => n - (intOf i).toNat)
    case atStart => exact ⟨0, 0, false, Nat.zero_le _, rfl, rfl, rfl, HP1, Lib.hid (by simp)⟩
    case round =>
      obtain ⟨k, dv, ov, hk, rfl, rfl, rfl, HG, HD⟩ := hrel
      by_cases hlt : k < n
      · obtain ⟨b, o, rfl, hbl, hc⟩ := HA.out (by omega)
        obtain ⟨x, hx⟩ : ∃ u, xs[k]? = some u := ⟨_, List.getElem?_eq_getElem (by rw [← HN.out]; exact hlt)⟩
        have c0 := (HG.out.2.cell (p := ⟨b, o + k, none⟩) hbl).trans (hc k x hx)
        have p0 : wr.cell? ⟨w.heap.size, 0, none⟩ = some (.int .i64 s) := HG.out.1.cell 0
        have p1 : wr.cell? ⟨w.heap.size, 1, none⟩ = some (.int .i64 e) := HG.out.1.cell 1
        clear hx hc hbl
        have CM := HCA.out x wr HG.out
        by_cases hz : Ph.admit s e x = 0
        · obtain ⟨_, hxe, hs2⟩ := Ph.admit_zero.1 hz
          rw [hz, show erV a 0 = .nilIface from rfl] at CM
          clear hz
          have hs2b : (s == 2) = true := by simp [hs2]
          have HS2 := Lib.hid hs2b
          clear hs2 hs2b
          subst hxe
          go_wp2_with (go_at_call 15; refine pause ?_)
          unfold Paused
          refine CM.mono ?_
          rintro r w2 ⟨rfl, hp2⟩
          have HP2 := Lib.hid hp2
          clear CM hp2 p0 p1 c0
          have p0 : w2.cell? ⟨w.heap.size, 0, none⟩ = some (.int .i64 s) := HP2.out.1.cell 0
          have p1 : w2.cell? ⟨w.heap.size, 1, none⟩ = some (.int .i64 x) := HP2.out.1.cell 1
          have CW := HCW.out w2 HP2.out
          rw [HS2.out] at CW
          clear HS2
          cases ov with
          | true =>
            obtain rfl := HD.out rfl
            go_wp2_with (go_at_call 14; refine pause ?_)
            unfold Paused
            refine CW.mono ?_
            rintro r w3 ⟨rfl, hp3⟩
            have HP3 := Lib.hid hp3
            clear CW hp3 p0 p1
            have p1 : w3.cell? ⟨w.heap.size, 1, none⟩ = some (.int .i64 dv) := HP3.out.1.cell 1
            go_wp2
            go_round
            case rel => exact ⟨k + 1, dv, true, by omega, by go_num, rfl, rfl, HP3, Lib.hid fun _ => rfl⟩
            case measure => simp [intOf]; omega
          | false =>
            go_wp2_with (go_at_call 14; refine pause ?_)
            unfold Paused
            refine CW.mono ?_
            rintro r w3 ⟨rfl, hp3⟩
            have HP3 := Lib.hid hp3
            clear CW hp3 p0 p1
            have p1 : w3.cell? ⟨w.heap.size, 1, none⟩ = some (.int .i64 x) := HP3.out.1.cell 1
            go_wp2
            go_round
            case rel => exact ⟨k + 1, x, true, by omega, by go_num, rfl, rfl, HP3, Lib.hid fun _ => rfl⟩
            case measure => simp [intOf]; omega
        · have e9 : erV a (Ph.admit s e x) = ev (a (Ph.admit s e x - 1)) := if_neg hz
          rw [e9] at CM
          generalize a (Ph.admit s e x - 1) = am at CM
          clear e9 hz
          go_wp2_with (go_at_call 15; refine pause ?_)
          unfold Paused
          refine CM.mono ?_
          rintro r w2 ⟨rfl, hp2⟩
          have HP2 := Lib.hid hp2
          clear CM hp2 p0 p1 c0
          go_wp2
          go_round
          case rel => exact ⟨k + 1, dv, ov, by omega, by go_num, rfl, rfl, HP2, HD⟩
          case measure => simp [intOf]; omega
      · clear HD
        have p0 : wr.cell? ⟨w.heap.size, 0, none⟩ = some (.int .i64 s) := HG.out.1.cell 0
        have p1 : wr.cell? ⟨w.heap.size, 1, none⟩ = some (.int .i64 e) := HG.out.1.cell 1
        have CS := stage_any s e 1099511627776 a wr (HS.out.below HG.out.2 (Nat.le_refl _))
        obtain ⟨q, hq⟩ : ∃ q, q = Ph.run 0 s e 1099511627776 := ⟨_, rfl⟩
        have HQ : Hid (q.2.2 = 0 → q.1 = 1) := Lib.hid (by
          intro h
          rw [hq] at h ⊢
          have h1 := (Ph.turn_ok (show (Ph.turn s e 1 1099511627776 _ _).2.2 = 0 from h)).1
          show (Ph.turn s e 1 1099511627776 _ _).1 = 1
          rw [h1])
        rw [← hq] at CS
        clear hq
        obtain ⟨q1, q2, q3⟩ := q
        dsimp only at HQ
        unfold phOut phV at CS
        dsimp only at CS
        go_wp2_with (go_at_call 17; refine pause ?_)
        unfold Paused
        refine CS.mono ?_
        rintro r w2 ⟨rfl, hb2⟩
        have HP2 := Lib.hid (HG.out.below hb2)
        clear CS hb2 HG p0 p1
        go_wp2_with (with_reducible (show wpList _ _ _ (Oper.mk _ (Op.store 23 _ _) _ _ _ _ :: _) _ _); refine pause ?_)
        unfold Paused
        refine wpList_store_row rfl 23 (.tmp 9) (.tmp 48) rfl w2.heap.size (phC q1 q2) (by rfl) (by rfl) 23 (phC 0 0) (Blk.new w2 _ _) ph_load rfl (ph_one _ _) ?_
        have HP3 : Hid (PhL w w.heap.size s e ((w2.alloc (.cells (phC 0 0) 23)).setRow w2.heap.size (phC q1 q2))) := Lib.hid ⟨(HP2.out.1.alloc _).farRow (by have := HP2.out.1.lt; omega) _, below_row (HP2.out.2.alloc HP2.out.2.size _) HP2.out.2.size _⟩
        have HY3 : Hid (Blk ((w2.alloc (.cells (phC 0 0) 23)).setRow w2.heap.size (phC q1 q2)) w2.heap.size 23 (phC q1 q2)) := Lib.hid ((Blk.new w2 _ _).row _)
        change wpList _ _ _ _ _ ((w2.alloc (.cells (phC 0 0) 23)).setRow w2.heap.size (phC q1 q2))
        generalize (w2.alloc (.cells (phC 0 0) 23)).setRow w2.heap.size (phC q1 q2) = w3 at HP3 HY3
        clear HP2
        generalize w2.heap.size = Q at HY3 ⊢
        by_cases h0 : q3 = 0
        · subst h0
          have h1 : q1 = 1 := HQ.out rfl
          subst h1
          rw [show erV a 0 = .nilIface from rfl]
          have d0 : w3.cell? ⟨Q, 0, none⟩ = some (.int .i64 1) := HY3.out.cell 0
          have d1 : w3.cell? ⟨Q, 1, none⟩ = some (.int .i64 q2) := HY3.out.cell 1
          have CW := writes_any 1 q2 w3
          rw [show ((1 : Int) == 2) = false by rfl] at CW
          unfold phV at CW
          clear HQ
          go_wp2_with (go_at_call 14; refine pause ?_)
          unfold Paused
          refine CW.mono ?_
          rintro r w4 ⟨rfl, hb4⟩
          have HP4 := Lib.hid (HP3.out.below hb4)
          have HY4 := Lib.hid (HY3.out.below hb4 HY3.out.lt)
          clear CW hb4 d0 d1 HP3 HY3
          have d0 : w4.cell? ⟨Q, 0, none⟩ = some (.int .i64 1) := HY4.out.cell 0
          have d1 : w4.cell? ⟨Q, 1, none⟩ = some (.int .i64 q2) := HY4.out.cell 1
          have CM := admit_any 1 q2 q2 a w4 (HS.out.below HP4.out.2 (Nat.le_refl _))
          have hz : Ph.admit 1 q2 q2 ≠ 0 := by rw [Ne, Ph.admit_zero]; rintro ⟨_, _, h⟩; omega
          have e9 : erV a (Ph.admit 1 q2 q2) = ev (a (Ph.admit 1 q2 q2 - 1)) := if_neg hz
          rw [e9] at CM
          generalize a (Ph.admit 1 q2 q2 - 1) = am at CM
          clear e9 hz
          unfold phV at CM
          go_wp2_with (go_at_call 15; refine pause ?_)
          unfold Paused
          refine CM.mono ?_
          rintro r w5 ⟨rfl, hb5⟩
          have HP5 := Lib.hid (HP4.out.below hb5)
          clear CM hb5 d0 d1 HP4 HY4
          go_wp2
          have HSX : Hid (PhL w w.heap.size s e w5.drew) := Lib.hid HP5.out.drew
          have HAZ := Lib.hid (@Ph.admit_zero s e e)
          refine wp_region_held (S := PhL w w.heap.size s e) (by kernel_rfl) ?_
          change wpAnyH _ _ _ _ _ _ _ _ w5.drew
          refine wpAnyH_take (i := 0) (v := .agg (phC s e)) rfl (by kernel_rfl) (by kernel_rfl) (by kernel_rfl) (fun _ _ _ h => h) (takes_row 23 (.tmp 2) rfl (by rfl) w.heap.size (by rfl) 23 (phC s e) _ (fun w' hS => hS.1) (by first | exact Tryd.underlying23 | kernel_rfl) (by rfl) ph_load) HSX.out ?_
          try simp only [Act.put, List.getElem_toArray, List.getElem_cons_zero, List.setIfInBounds_toArray, List.set_cons_zero, List.set_cons_succ]
          refine all_one (i := 1) (by kernel_rfl) rfl (by rfl) (fun K hK => ?_)
          go_simp
          refine (HCR.out w5.drew HSX.out).mono ?_
          rintro r wa ⟨rfl, hp_wa⟩
          have HX_wa := Lib.hid hp_wa
          clear hp_wa
          dsimp only
          refine hK _ _ HX_wa.out ?_
          clear hK
          try simp only [Act.put, List.getElem_toArray, List.getElem_cons_zero, List.getElem_cons_succ, List.setIfInBounds_toArray, List.set_cons_zero, List.set_cons_succ]
          cases hrt : Ph.rt s e with
          | false =>
            refine wpAnyH_take (i := 2) (v := ?_) rfl (by kernel_rfl) (by kernel_rfl) (by kernel_rfl) (fun _ _ _ h => h) (Or.inl ⟨by rfl, ?_⟩) HX_wa.out ?_
            rotate_left
            · intro w' hS; go_simp; with_reducible rfl
            try simp only [Act.put, List.getElem_toArray, List.getElem_cons_zero, List.getElem_cons_succ, List.setIfInBounds_toArray, List.set_cons_zero, List.set_cons_succ]
            refine wpAnyH_take (i := 3) (v := ?_) rfl (by kernel_rfl) (by kernel_rfl) (by kernel_rfl) (fun _ _ _ h => h) (Or.inl ⟨by rfl, ?_⟩) HX_wa.out ?_
            rotate_left
            · intro w' hS; go_simp; with_reducible rfl
            try simp only [Act.put, List.getElem_toArray, List.getElem_cons_zero, List.getElem_cons_succ, List.setIfInBounds_toArray, List.set_cons_zero, List.set_cons_succ]
            refine wpAnyH_take (i := 4) (v := undef) rfl (by kernel_rfl) (by kernel_rfl) (by kernel_rfl) (fun _ _ _ h => h) (Or.inr ⟨by rfl, rfl⟩) HX_wa.out ?_
            try simp only [Act.put, List.getElem_toArray, List.getElem_cons_zero, List.getElem_cons_succ, List.setIfInBounds_toArray, List.set_cons_zero, List.set_cons_succ]
            refine wpAnyH_take (i := 5) (v := undef) rfl (by kernel_rfl) (by kernel_rfl) (by kernel_rfl) (fun _ _ _ h => h) (Or.inr ⟨by rfl, rfl⟩) HX_wa.out ?_
            try simp only [Act.put, List.getElem_toArray, List.getElem_cons_zero, List.getElem_cons_succ, List.setIfInBounds_toArray, List.set_cons_zero, List.set_cons_succ]
            refine wpAnyH_take (i := 6) (v := undef) rfl (by kernel_rfl) (by kernel_rfl) (by kernel_rfl) (fun _ _ _ h => h) (Or.inr ⟨by rfl, rfl⟩) HX_wa.out ?_
            try simp only [Act.put, List.getElem_toArray, List.getElem_cons_zero, List.getElem_cons_succ, List.setIfInBounds_toArray, List.set_cons_zero, List.set_cons_succ]
            refine wpAnyH_take (i := 7) (v := undef) rfl (by kernel_rfl) (by kernel_rfl) (by kernel_rfl) (fun _ _ _ h => h) (Or.inr ⟨by rfl, rfl⟩) HX_wa.out ?_
            try simp only [Act.put, List.getElem_toArray, List.getElem_cons_zero, List.getElem_cons_succ, List.setIfInBounds_toArray, List.set_cons_zero, List.set_cons_succ]
            refine wpAnyH_take (i := 8) (v := undef) rfl (by kernel_rfl) (by kernel_rfl) (by kernel_rfl) (fun _ _ _ h => h) (Or.inr ⟨by rfl, rfl⟩) HX_wa.out ?_
            try simp only [Act.put, List.getElem_toArray, List.getElem_cons_zero, List.getElem_cons_succ, List.setIfInBounds_toArray, List.set_cons_zero, List.set_cons_succ]
            refine wpAnyH_take (i := 9) (v := undef) rfl (by kernel_rfl) (by kernel_rfl) (by kernel_rfl) (fun _ _ _ h => h) (Or.inr ⟨by rfl, rfl⟩) HX_wa.out ?_
            try simp only [Act.put, List.getElem_toArray, List.getElem_cons_zero, List.getElem_cons_succ, List.setIfInBounds_toArray, List.set_cons_zero, List.set_cons_succ]
            refine wpAnyH_take (i := 10) (v := undef) rfl (by kernel_rfl) (by kernel_rfl) (by kernel_rfl) (fun _ _ _ h => h) (Or.inr ⟨by rfl, rfl⟩) HX_wa.out ?_
            try simp only [Act.put, List.getElem_toArray, List.getElem_cons_zero, List.getElem_cons_succ, List.setIfInBounds_toArray, List.set_cons_zero, List.set_cons_succ]
            refine wpAnyH_take (i := 11) (v := undef) rfl (by kernel_rfl) (by kernel_rfl) (by kernel_rfl) (fun _ _ _ h => h) (Or.inr ⟨by rfl, rfl⟩) HX_wa.out ?_
            try simp only [Act.put, List.getElem_toArray, List.getElem_cons_zero, List.getElem_cons_succ, List.setIfInBounds_toArray, List.set_cons_zero, List.set_cons_succ]
            refine wpAnyH_take (i := 12) (v := ?_) rfl (by kernel_rfl) (by kernel_rfl) (by kernel_rfl) (fun _ _ _ h => h) (Or.inl ⟨by rfl, ?_⟩) HX_wa.out ?_
            rotate_left
            · intro w' hS; go_simp; with_reducible rfl
            try simp only [Act.put, List.getElem_toArray, List.getElem_cons_zero, List.getElem_cons_succ, List.setIfInBounds_toArray, List.set_cons_zero, List.set_cons_succ]
            refine wpAnyH_take (i := 13) (v := ?_) rfl (by kernel_rfl) (by kernel_rfl) (by kernel_rfl) (fun _ _ _ h => h) (Or.inl ⟨by rfl, ?_⟩) HX_wa.out ?_
            rotate_left
            · intro w' hS; go_simp; with_reducible rfl
            try simp only [Act.put, List.getElem_toArray, List.getElem_cons_zero, List.getElem_cons_succ, List.setIfInBounds_toArray, List.set_cons_zero, List.set_cons_succ]
            refine wpAnyH_done (by kernel_rfl) ?_ _
            go_wp2
            go_ret
            exact ⟨rfl, HX_wa.out.2⟩
          | true =>
            refine wpAnyH_take (i := 2) (v := ?_) rfl (by kernel_rfl) (by kernel_rfl) (by kernel_rfl) (fun _ _ _ h => h) (Or.inl ⟨by rfl, ?_⟩) HX_wa.out ?_
            rotate_left
            · intro w' hS; go_simp; with_reducible rfl
            try simp only [Act.put, List.getElem_toArray, List.getElem_cons_zero, List.getElem_cons_succ, List.setIfInBounds_toArray, List.set_cons_zero, List.set_cons_succ]
            refine wpAnyH_take (i := 3) (v := ?_) rfl (by kernel_rfl) (by kernel_rfl) (by kernel_rfl) (fun _ _ _ h => h) (Or.inl ⟨by rfl, ?_⟩) HX_wa.out ?_
            rotate_left
            · intro w' hS; go_simp; with_reducible rfl
            try simp only [Act.put, List.getElem_toArray, List.getElem_cons_zero, List.getElem_cons_succ, List.setIfInBounds_toArray, List.set_cons_zero, List.set_cons_succ]
            refine wpAnyH_take (i := 4) (v := .agg (phC s e)) rfl (by kernel_rfl) (by kernel_rfl) (by kernel_rfl) (fun _ _ _ h => h) (takes_row 23 (.tmp 2) rfl (by rfl) w.heap.size (by rfl) 23 (phC s e) _ (fun w' hS => hS.1) (by first | exact Tryd.underlying23 | kernel_rfl) (by rfl) ph_load) HX_wa.out ?_
            try simp only [Act.put, List.getElem_toArray, List.getElem_cons_zero, List.getElem_cons_succ, List.setIfInBounds_toArray, List.set_cons_zero, List.set_cons_succ]
            refine wpAnyH_take (i := 6) (v := .agg (phC s e)) rfl (by kernel_rfl) (by kernel_rfl) (by kernel_rfl) (fun _ _ _ h => h) (takes_row 23 (.tmp 2) rfl (by rfl) w.heap.size (by rfl) 23 (phC s e) _ (fun w' hS => hS.1) (by first | exact Tryd.underlying23 | kernel_rfl) (by rfl) ph_load) HX_wa.out ?_
            try simp only [Act.put, List.getElem_toArray, List.getElem_cons_zero, List.getElem_cons_succ, List.setIfInBounds_toArray, List.set_cons_zero, List.set_cons_succ]
            refine wpAnyH_take (i := 7) (v := ?_) rfl (by kernel_rfl) (by kernel_rfl) (by kernel_rfl) (fun _ _ _ h => h) (Or.inl ⟨by rfl, ?_⟩) HX_wa.out ?_
            rotate_left
            · intro w' hS; go_simp; with_reducible rfl
            try simp only [Act.put, List.getElem_toArray, List.getElem_cons_zero, List.getElem_cons_succ, List.setIfInBounds_toArray, List.set_cons_zero, List.set_cons_succ]
            refine wpAnyH_take (i := 8) (v := ?_) rfl (by kernel_rfl) (by kernel_rfl) (by kernel_rfl) (fun _ _ _ h => h) (Or.inl ⟨by rfl, ?_⟩) HX_wa.out ?_
            rotate_left
            · intro w' hS; have h0 : w'.cell? ⟨w.heap.size, 1, none⟩ = some (.int .i64 e) := hS.1.cell 1; go_simp; with_reducible rfl
            try simp only [Act.put, List.getElem_toArray, List.getElem_cons_zero, List.getElem_cons_succ, List.setIfInBounds_toArray, List.set_cons_zero, List.set_cons_succ]
            refine all_one (i := 5) (by kernel_rfl) rfl (by rfl) (fun K hK => ?_)
            go_simp
            refine (HCW.out wa HX_wa.out).mono ?_
            rintro r wb ⟨rfl, hp_wb⟩
            have HX_wb := Lib.hid hp_wb
            clear hp_wb
            dsimp only
            refine hK _ _ HX_wb.out ?_
            clear hK
            try simp only [Act.put, List.getElem_toArray, List.getElem_cons_zero, List.getElem_cons_succ, List.setIfInBounds_toArray, List.set_cons_zero, List.set_cons_succ]
            have CM := HCA.out e wb HX_wb.out
            by_cases hs2 : s = 2
            · have hz : Ph.admit s e e = 0 := HAZ.out.2 ⟨hrt, rfl, hs2⟩
              have hsb : (s == 2) = true := by simp [hs2]
              rw [hz, show erV a 0 = .nilIface from rfl] at CM
              rw [hsb]
              clear hz hs2 hsb HAZ hrt
              refine all_one (i := 9) (by kernel_rfl) rfl (by rfl) (fun K hK => ?_)
              go_simp
              refine CM.mono ?_
              rintro r wc ⟨rfl, hp_wc⟩
              have HX_wc := Lib.hid hp_wc
              clear hp_wc
              dsimp only
              refine hK _ _ HX_wc.out ?_
              clear hK
              try simp only [Act.put, List.getElem_toArray, List.getElem_cons_zero, List.getElem_cons_succ, List.setIfInBounds_toArray, List.set_cons_zero, List.set_cons_succ]
              refine wpAnyH_take (i := 10) (v := ?_) rfl (by kernel_rfl) (by kernel_rfl) (by kernel_rfl) (fun _ _ _ h => h) (Or.inl ⟨by rfl, ?_⟩) HX_wc.out ?_
              rotate_left
              · intro w' hS; go_simp; with_reducible rfl
              try simp only [Act.put, List.getElem_toArray, List.getElem_cons_zero, List.getElem_cons_succ, List.setIfInBounds_toArray, List.set_cons_zero, List.set_cons_succ]
              refine wpAnyH_take (i := 11) (v := ?_) rfl (by kernel_rfl) (by kernel_rfl) (by kernel_rfl) (fun _ _ _ h => h) (Or.inl ⟨by rfl, ?_⟩) HX_wc.out ?_
              rotate_left
              · intro w' hS; go_simp; with_reducible rfl
              try simp only [Act.put, List.getElem_toArray, List.getElem_cons_zero, List.getElem_cons_succ, List.setIfInBounds_toArray, List.set_cons_zero, List.set_cons_succ]
              refine wpAnyH_take (i := 12) (v := ?_) rfl (by kernel_rfl) (by kernel_rfl) (by kernel_rfl) (fun _ _ _ h => h) (Or.inl ⟨by rfl, ?_⟩) HX_wc.out ?_
              rotate_left
              · intro w' hS; go_simp; with_reducible rfl
              try simp only [Act.put, List.getElem_toArray, List.getElem_cons_zero, List.getElem_cons_succ, List.setIfInBounds_toArray, List.set_cons_zero, List.set_cons_succ]
              refine wpAnyH_take (i := 13) (v := ?_) rfl (by kernel_rfl) (by kernel_rfl) (by kernel_rfl) (fun _ _ _ h => h) (Or.inl ⟨by rfl, ?_⟩) HX_wc.out ?_
              rotate_left
              · intro w' hS; go_simp; with_reducible rfl
              try simp only [Act.put, List.getElem_toArray, List.getElem_cons_zero, List.getElem_cons_succ, List.setIfInBounds_toArray, List.set_cons_zero, List.set_cons_succ]
              refine wpAnyH_done (by kernel_rfl) ?_ _
              go_wp2
              go_ret
              exact ⟨rfl, HX_wc.out.2⟩
            · have hz : Ph.admit s e e ≠ 0 := fun h => hs2 (HAZ.out.1 h).2.2
              have hsb : (s == 2) = false := by simpa using hs2
              have e9 : erV a (Ph.admit s e e) = ev (a (Ph.admit s e e - 1)) := if_neg hz
              rw [e9] at CM
              generalize a (Ph.admit s e e - 1) = an at CM
              rw [hsb]
              clear hz hs2 hsb e9 HAZ hrt
              refine all_one (i := 9) (by kernel_rfl) rfl (by rfl) (fun K hK => ?_)
              go_simp
              refine CM.mono ?_
              rintro r wc ⟨rfl, hp_wc⟩
              have HX_wc := Lib.hid hp_wc
              clear hp_wc
              dsimp only
              refine hK _ _ HX_wc.out ?_
              clear hK
              try simp only [Act.put, List.getElem_toArray, List.getElem_cons_zero, List.getElem_cons_succ, List.setIfInBounds_toArray, List.set_cons_zero, List.set_cons_succ]
              refine wpAnyH_take (i := 10) (v := ?_) rfl (by kernel_rfl) (by kernel_rfl) (by kernel_rfl) (fun _ _ _ h => h) (Or.inl ⟨by rfl, ?_⟩) HX_wc.out ?_
              rotate_left
              · intro w' hS; go_simp; with_reducible rfl
              try simp only [Act.put, List.getElem_toArray, List.getElem_cons_zero, List.getElem_cons_succ, List.setIfInBounds_toArray, List.set_cons_zero, List.set_cons_succ]
              refine wpAnyH_take (i := 11) (v := ?_) rfl (by kernel_rfl) (by kernel_rfl) (by kernel_rfl) (fun _ _ _ h => h) (Or.inl ⟨by rfl, ?_⟩) HX_wc.out ?_
              rotate_left
              · intro w' hS; go_simp; with_reducible rfl
              try simp only [Act.put, List.getElem_toArray, List.getElem_cons_zero, List.getElem_cons_succ, List.setIfInBounds_toArray, List.set_cons_zero, List.set_cons_succ]
              refine wpAnyH_take (i := 12) (v := ?_) rfl (by kernel_rfl) (by kernel_rfl) (by kernel_rfl) (fun _ _ _ h => h) (Or.inl ⟨by rfl, ?_⟩) HX_wc.out ?_
              rotate_left
              · intro w' hS; go_simp; with_reducible rfl
              try simp only [Act.put, List.getElem_toArray, List.getElem_cons_zero, List.getElem_cons_succ, List.setIfInBounds_toArray, List.set_cons_zero, List.set_cons_succ]
              refine wpAnyH_take (i := 13) (v := ?_) rfl (by kernel_rfl) (by kernel_rfl) (by kernel_rfl) (fun _ _ _ h => h) (Or.inl ⟨by rfl, ?_⟩) HX_wc.out ?_
              rotate_left
              · intro w' hS; go_simp; with_reducible rfl
              try simp only [Act.put, List.getElem_toArray, List.getElem_cons_zero, List.getElem_cons_succ, List.setIfInBounds_toArray, List.set_cons_zero, List.set_cons_succ]
              refine wpAnyH_done (by kernel_rfl) ?_ _
              go_wp2
              go_ret
              exact ⟨rfl, HX_wc.out.2⟩
        · have e3 : erV a q3 = ev (a (q3 - 1)) := if_neg h0
          rw [e3]
          clear HQ HY3 e3 h0
          generalize a (q3 - 1) = am
          go_wp2
          have HSX : Hid (PhL w w.heap.size s e w3.drew) := Lib.hid HP3.out.drew
          have HAZ := Lib.hid (@Ph.admit_zero s e e)
          refine wp_region_held (S := PhL w w.heap.size s e) (by kernel_rfl) ?_
          change wpAnyH _ _ _ _ _ _ _ _ w3.drew
          refine wpAnyH_take (i := 0) (v := .agg (phC s e)) rfl (by kernel_rfl) (by kernel_rfl) (by kernel_rfl) (fun _ _ _ h => h) (takes_row 23 (.tmp 2) rfl (by rfl) w.heap.size (by rfl) 23 (phC s e) _ (fun w' hS => hS.1) (by first | exact Tryd.underlying23 | kernel_rfl) (by rfl) ph_load) HSX.out ?_
          try simp only [Act.put, List.getElem_toArray, List.getElem_cons_zero, List.setIfInBounds_toArray, List.set_cons_zero, List.set_cons_succ]
          refine all_one (i := 1) (by kernel_rfl) rfl (by rfl) (fun K hK => ?_)
          go_simp
          refine (HCR.out w3.drew HSX.out).mono ?_
          rintro r wa ⟨rfl, hp_wa⟩
          have HX_wa := Lib.hid hp_wa
          clear hp_wa
          dsimp only
          refine hK _ _ HX_wa.out ?_
          clear hK
          try simp only [Act.put, List.getElem_toArray, List.getElem_cons_zero, List.getElem_cons_succ, List.setIfInBounds_toArray, List.set_cons_zero, List.set_cons_succ]
          cases hrt : Ph.rt s e with
          | false =>
            refine wpAnyH_take (i := 2) (v := ?_) rfl (by kernel_rfl) (by kernel_rfl) (by kernel_rfl) (fun _ _ _ h => h) (Or.inl ⟨by rfl, ?_⟩) HX_wa.out ?_
            rotate_left
            · intro w' hS; go_simp; with_reducible rfl
            try simp only [Act.put, List.getElem_toArray, List.getElem_cons_zero, List.getElem_cons_succ, List.setIfInBounds_toArray, List.set_cons_zero, List.set_cons_succ]
            refine wpAnyH_take (i := 3) (v := ?_) rfl (by kernel_rfl) (by kernel_rfl) (by kernel_rfl) (fun _ _ _ h => h) (Or.inl ⟨by rfl, ?_⟩) HX_wa.out ?_
            rotate_left
            · intro w' hS; go_simp; with_reducible rfl
            try simp only [Act.put, List.getElem_toArray, List.getElem_cons_zero, List.getElem_cons_succ, List.setIfInBounds_toArray, List.set_cons_zero, List.set_cons_succ]
            refine wpAnyH_take (i := 4) (v := undef) rfl (by kernel_rfl) (by kernel_rfl) (by kernel_rfl) (fun _ _ _ h => h) (Or.inr ⟨by rfl, rfl⟩) HX_wa.out ?_
            try simp only [Act.put, List.getElem_toArray, List.getElem_cons_zero, List.getElem_cons_succ, List.setIfInBounds_toArray, List.set_cons_zero, List.set_cons_succ]
            refine wpAnyH_take (i := 5) (v := undef) rfl (by kernel_rfl) (by kernel_rfl) (by kernel_rfl) (fun _ _ _ h => h) (Or.inr ⟨by rfl, rfl⟩) HX_wa.out ?_
            try simp only [Act.put, List.getElem_toArray, List.getElem_cons_zero, List.getElem_cons_succ, List.setIfInBounds_toArray, List.set_cons_zero, List.set_cons_succ]
            refine wpAnyH_take (i := 6) (v := undef) rfl (by kernel_rfl) (by kernel_rfl) (by kernel_rfl) (fun _ _ _ h => h) (Or.inr ⟨by rfl, rfl⟩) HX_wa.out ?_
            try simp only [Act.put, List.getElem_toArray, List.getElem_cons_zero, List.getElem_cons_succ, List.setIfInBounds_toArray, List.set_cons_zero, List.set_cons_succ]
            refine wpAnyH_take (i := 7) (v := undef) rfl (by kernel_rfl) (by kernel_rfl) (by kernel_rfl) (fun _ _ _ h => h) (Or.inr ⟨by rfl, rfl⟩) HX_wa.out ?_
            try simp only [Act.put, List.getElem_toArray, List.getElem_cons_zero, List.getElem_cons_succ, List.setIfInBounds_toArray, List.set_cons_zero, List.set_cons_succ]
            refine wpAnyH_take (i := 8) (v := undef) rfl (by kernel_rfl) (by kernel_rfl) (by kernel_rfl) (fun _ _ _ h => h) (Or.inr ⟨by rfl, rfl⟩) HX_wa.out ?_
            try simp only [Act.put, List.getElem_toArray, List.getElem_cons_zero, List.getElem_cons_succ, List.setIfInBounds_toArray, List.set_cons_zero, List.set_cons_succ]
            refine wpAnyH_take (i := 9) (v := undef) rfl (by kernel_rfl) (by kernel_rfl) (by kernel_rfl) (fun _ _ _ h => h) (Or.inr ⟨by rfl, rfl⟩) HX_wa.out ?_
            try simp only [Act.put, List.getElem_toArray, List.getElem_cons_zero, List.getElem_cons_succ, List.setIfInBounds_toArray, List.set_cons_zero, List.set_cons_succ]
            refine wpAnyH_take (i := 10) (v := undef) rfl (by kernel_rfl) (by kernel_rfl) (by kernel_rfl) (fun _ _ _ h => h) (Or.inr ⟨by rfl, rfl⟩) HX_wa.out ?_
            try simp only [Act.put, List.getElem_toArray, List.getElem_cons_zero, List.getElem_cons_succ, List.setIfInBounds_toArray, List.set_cons_zero, List.set_cons_succ]
            refine wpAnyH_take (i := 11) (v := undef) rfl (by kernel_rfl) (by kernel_rfl) (by kernel_rfl) (fun _ _ _ h => h) (Or.inr ⟨by rfl, rfl⟩) HX_wa.out ?_
            try simp only [Act.put, List.getElem_toArray, List.getElem_cons_zero, List.getElem_cons_succ, List.setIfInBounds_toArray, List.set_cons_zero, List.set_cons_succ]
            refine wpAnyH_take (i := 12) (v := ?_) rfl (by kernel_rfl) (by kernel_rfl) (by kernel_rfl) (fun _ _ _ h => h) (Or.inl ⟨by rfl, ?_⟩) HX_wa.out ?_
            rotate_left
            · intro w' hS; go_simp; with_reducible rfl
            try simp only [Act.put, List.getElem_toArray, List.getElem_cons_zero, List.getElem_cons_succ, List.setIfInBounds_toArray, List.set_cons_zero, List.set_cons_succ]
            refine wpAnyH_take (i := 13) (v := ?_) rfl (by kernel_rfl) (by kernel_rfl) (by kernel_rfl) (fun _ _ _ h => h) (Or.inl ⟨by rfl, ?_⟩) HX_wa.out ?_
            rotate_left
            · intro w' hS; go_simp; with_reducible rfl
            try simp only [Act.put, List.getElem_toArray, List.getElem_cons_zero, List.getElem_cons_succ, List.setIfInBounds_toArray, List.set_cons_zero, List.set_cons_succ]
            refine wpAnyH_done (by kernel_rfl) ?_ _
            go_wp2
            go_ret
            exact ⟨rfl, HX_wa.out.2⟩
          | true =>
            refine wpAnyH_take (i := 2) (v := ?_) rfl (by kernel_rfl) (by kernel_rfl) (by kernel_rfl) (fun _ _ _ h => h) (Or.inl ⟨by rfl, ?_⟩) HX_wa.out ?_
            rotate_left
            · intro w' hS; go_simp; with_reducible rfl
            try simp only [Act.put, List.getElem_toArray, List.getElem_cons_zero, List.getElem_cons_succ, List.setIfInBounds_toArray, List.set_cons_zero, List.set_cons_succ]
            refine wpAnyH_take (i := 3) (v := ?_) rfl (by kernel_rfl) (by kernel_rfl) (by kernel_rfl) (fun _ _ _ h => h) (Or.inl ⟨by rfl, ?_⟩) HX_wa.out ?_
            rotate_left
            · intro w' hS; go_simp; with_reducible rfl
            try simp only [Act.put, List.getElem_toArray, List.getElem_cons_zero, List.getElem_cons_succ, List.setIfInBounds_toArray, List.set_cons_zero, List.set_cons_succ]
            refine wpAnyH_take (i := 4) (v := .agg (phC s e)) rfl (by kernel_rfl) (by kernel_rfl) (by kernel_rfl) (fun _ _ _ h => h) (takes_row 23 (.tmp 2) rfl (by rfl) w.heap.size (by rfl) 23 (phC s e) _ (fun w' hS => hS.1) (by first | exact Tryd.underlying23 | kernel_rfl) (by rfl) ph_load) HX_wa.out ?_
            try simp only [Act.put, List.getElem_toArray, List.getElem_cons_zero, List.getElem_cons_succ, List.setIfInBounds_toArray, List.set_cons_zero, List.set_cons_succ]
            refine wpAnyH_take (i := 6) (v := .agg (phC s e)) rfl (by kernel_rfl) (by kernel_rfl) (by kernel_rfl) (fun _ _ _ h => h) (takes_row 23 (.tmp 2) rfl (by rfl) w.heap.size (by rfl) 23 (phC s e) _ (fun w' hS => hS.1) (by first | exact Tryd.underlying23 | kernel_rfl) (by rfl) ph_load) HX_wa.out ?_
            try simp only [Act.put, List.getElem_toArray, List.getElem_cons_zero, List.getElem_cons_succ, List.setIfInBounds_toArray, List.set_cons_zero, List.set_cons_succ]
            refine wpAnyH_take (i := 7) (v := ?_) rfl (by kernel_rfl) (by kernel_rfl) (by kernel_rfl) (fun _ _ _ h => h) (Or.inl ⟨by rfl, ?_⟩) HX_wa.out ?_
            rotate_left
            · intro w' hS; go_simp; with_reducible rfl
            try simp only [Act.put, List.getElem_toArray, List.getElem_cons_zero, List.getElem_cons_succ, List.setIfInBounds_toArray, List.set_cons_zero, List.set_cons_succ]
            refine wpAnyH_take (i := 8) (v := ?_) rfl (by kernel_rfl) (by kernel_rfl) (by kernel_rfl) (fun _ _ _ h => h) (Or.inl ⟨by rfl, ?_⟩) HX_wa.out ?_
            rotate_left
            · intro w' hS; have h0 : w'.cell? ⟨w.heap.size, 1, none⟩ = some (.int .i64 e) := hS.1.cell 1; go_simp; with_reducible rfl
            try simp only [Act.put, List.getElem_toArray, List.getElem_cons_zero, List.getElem_cons_succ, List.setIfInBounds_toArray, List.set_cons_zero, List.set_cons_succ]
            refine all_one (i := 5) (by kernel_rfl) rfl (by rfl) (fun K hK => ?_)
            go_simp
            refine (HCW.out wa HX_wa.out).mono ?_
            rintro r wb ⟨rfl, hp_wb⟩
            have HX_wb := Lib.hid hp_wb
            clear hp_wb
            dsimp only
            refine hK _ _ HX_wb.out ?_
            clear hK
            try simp only [Act.put, List.getElem_toArray, List.getElem_cons_zero, List.getElem_cons_succ, List.setIfInBounds_toArray, List.set_cons_zero, List.set_cons_succ]
            have CM := HCA.out e wb HX_wb.out
            by_cases hs2 : s = 2
            · have hz : Ph.admit s e e = 0 := HAZ.out.2 ⟨hrt, rfl, hs2⟩
              have hsb : (s == 2) = true := by simp [hs2]
              rw [hz, show erV a 0 = .nilIface from rfl] at CM
              rw [hsb]
              clear hz hs2 hsb HAZ hrt
              refine all_one (i := 9) (by kernel_rfl) rfl (by rfl) (fun K hK => ?_)
              go_simp
              refine CM.mono ?_
              rintro r wc ⟨rfl, hp_wc⟩
              have HX_wc := Lib.hid hp_wc
              clear hp_wc
              dsimp only
              refine hK _ _ HX_wc.out ?_
              clear hK
              try simp only [Act.put, List.getElem_toArray, List.getElem_cons_zero, List.getElem_cons_succ, List.setIfInBounds_toArray, List.set_cons_zero, List.set_cons_succ]
              refine wpAnyH_take (i := 10) (v := ?_) rfl (by kernel_rfl) (by kernel_rfl) (by kernel_rfl) (fun _ _ _ h => h) (Or.inl ⟨by rfl, ?_⟩) HX_wc.out ?_
              rotate_left
              · intro w' hS; go_simp; with_reducible rfl
              try simp only [Act.put, List.getElem_toArray, List.getElem_cons_zero, List.getElem_cons_succ, List.setIfInBounds_toArray, List.set_cons_zero, List.set_cons_succ]
              refine wpAnyH_take (i := 11) (v := ?_) rfl (by kernel_rfl) (by kernel_rfl) (by kernel_rfl) (fun _ _ _ h => h) (Or.inl ⟨by rfl, ?_⟩) HX_wc.out ?_
              rotate_left
              · intro w' hS; go_simp; with_reducible rfl
              try simp only [Act.put, List.getElem_toArray, List.getElem_cons_zero, List.getElem_cons_succ, List.setIfInBounds_toArray, List.set_cons_zero, List.set_cons_succ]
              refine wpAnyH_take (i := 12) (v := ?_) rfl (by kernel_rfl) (by kernel_rfl) (by kernel_rfl) (fun _ _ _ h => h) (Or.inl ⟨by rfl, ?_⟩) HX_wc.out ?_
              rotate_left
              · intro w' hS; go_simp; with_reducible rfl
              try simp only [Act.put, List.getElem_toArray, List.getElem_cons_zero, List.getElem_cons_succ, List.setIfInBounds_toArray, List.set_cons_zero, List.set_cons_succ]
              refine wpAnyH_take (i := 13) (v := ?_) rfl (by kernel_rfl) (by kernel_rfl) (by kernel_rfl) (fun _ _ _ h => h) (Or.inl ⟨by rfl, ?_⟩) HX_wc.out ?_
              rotate_left
              · intro w' hS; go_simp; with_reducible rfl
              try simp only [Act.put, List.getElem_toArray, List.getElem_cons_zero, List.getElem_cons_succ, List.setIfInBounds_toArray, List.set_cons_zero, List.set_cons_succ]
              refine wpAnyH_done (by kernel_rfl) ?_ _
              go_wp2
              go_ret
              exact ⟨rfl, HX_wc.out.2⟩
            · have hz : Ph.admit s e e ≠ 0 := fun h => hs2 (HAZ.out.1 h).2.2
              have hsb : (s == 2) = false := by simpa using hs2
              have e9 : erV a (Ph.admit s e e) = ev (a (Ph.admit s e e - 1)) := if_neg hz
              rw [e9] at CM
              generalize a (Ph.admit s e e - 1) = an at CM
              rw [hsb]
              clear hz hs2 hsb e9 HAZ hrt
              refine all_one (i := 9) (by kernel_rfl) rfl (by rfl) (fun K hK => ?_)
              go_simp
              refine CM.mono ?_
              rintro r wc ⟨rfl, hp_wc⟩
              have HX_wc := Lib.hid hp_wc
              clear hp_wc
              dsimp only
              refine hK _ _ HX_wc.out ?_
              clear hK
              try simp only [Act.put, List.getElem_toArray, List.getElem_cons_zero, List.getElem_cons_succ, List.setIfInBounds_toArray, List.set_cons_zero, List.set_cons_succ]
              refine wpAnyH_take (i := 10) (v := ?_) rfl (by kernel_rfl) (by kernel_rfl) (by kernel_rfl) (fun _ _ _ h => h) (Or.inl ⟨by rfl, ?_⟩) HX_wc.out ?_
              rotate_left
              · intro w' hS; go_simp; with_reducible rfl
              try simp only [Act.put, List.getElem_toArray, List.getElem_cons_zero, List.getElem_cons_succ, List.setIfInBounds_toArray, List.set_cons_zero, List.set_cons_succ]
              refine wpAnyH_take (i := 11) (v := ?_) rfl (by kernel_rfl) (by kernel_rfl) (by kernel_rfl) (fun _ _ _ h => h) (Or.inl ⟨by rfl, ?_⟩) HX_wc.out ?_
              rotate_left
              · intro w' hS; go_simp; with_reducible rfl
              try simp only [Act.put, List.getElem_toArray, List.getElem_cons_zero, List.getElem_cons_succ, List.setIfInBounds_toArray, List.set_cons_zero, List.set_cons_succ]
              refine wpAnyH_take (i := 12) (v := ?_) rfl (by kernel_rfl) (by kernel_rfl) (by kernel_rfl) (fun _ _ _ h => h) (Or.inl ⟨by rfl, ?_⟩) HX_wc.out ?_
              rotate_left
              · intro w' hS; go_simp; with_reducible rfl
              try simp only [Act.put, List.getElem_toArray, List.getElem_cons_zero, List.getElem_cons_succ, List.setIfInBounds_toArray, List.set_cons_zero, List.set_cons_succ]
              refine wpAnyH_take (i := 13) (v := ?_) rfl (by kernel_rfl) (by kernel_rfl) (by kernel_rfl) (fun _ _ _ h => h) (Or.inl ⟨by rfl, ?_⟩) HX_wc.out ?_
              rotate_left
              · intro w' hS; go_simp; with_reducible rfl
              try simp only [Act.put, List.getElem_toArray, List.getElem_cons_zero, List.getElem_cons_succ, List.setIfInBounds_toArray, List.set_cons_zero, List.set_cons_succ]
              refine wpAnyH_done (by kernel_rfl) ?_ _
              go_wp2
              go_ret
              exact ⟨rfl, HX_wc.out.2⟩
  · have g60 : (60 : Int) < n := by omega
    go_wp2
    go_ret
    exact ⟨rfl, HP1.out.2⟩
end Go.Proofs.YtagplmlhpocbjaaDoor
