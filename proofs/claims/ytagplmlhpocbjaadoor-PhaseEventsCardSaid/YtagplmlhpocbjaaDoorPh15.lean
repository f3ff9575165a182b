/- The law PhaseEvents. -/
import Derived.Test.YtagplmlhpocbjaaDoorPh14
import Derived.Test.YtagplmlhpocbjaaDoorPh9
namespace Go.Proofs.YtagplmlhpocbjaaDoor
open Go Go.RowKit
/-- what stands behind both answers -/
structure PhV (w : World) (s e : Int) (B7 B9 : Nat) (q1 q2 : Int) (w' : World) : Prop where
  p : Blk w' w.heap.size 23 (phC s e)
  q : Blk w' B7 23 (phC q1 q2)
  r : Blk w' B9 30 (phC q1 q2)
  bel : Below w.heap.size w w'
theorem PhV.below {w w1 w2 : World} {s e : Int} {B7 B9 : Nat} {q1 q2 : Int} (h : PhV w s e B7 B9 q1 q2 w1) (hb : Below w1.heap.size w1 w2) : PhV w s e B7 B9 q1 q2 w2 :=
  ⟨h.p.below hb h.p.lt, h.q.below hb h.q.lt, h.r.below hb h.r.lt, h.bel.trans (hb.mono h.bel.size)⟩
theorem PhV.drew {w w1 : World} {s e : Int} {B7 B9 : Nat} {q1 q2 : Int} (h : PhV w s e B7 B9 q1 q2 w1) : PhV w s e B7 B9 q1 q2 w1.drew := ⟨h.p.drew, h.q.drew, h.r.drew, below_drewN h.bel 1⟩
theorem run22 (k : Nat) (s e x : Int) : (Ph.run k s e x).2.2 ≤ 22 := by
  have hm : ∀ s e s' e' t xs, (Ph.move s e s' e' t xs).2.2 ≤ 22 := fun s e s' e' t xs => by
    unfold Ph.move
    split
    · show 4 ≤ 22; omega
    · split
      · show 19 ≤ 22; omega
      · split
        · show 18 ≤ 22; omega
        · show 0 ≤ 22; omega
  have ht : ∀ s e s' e' t xs, (Ph.turn s e s' e' t xs).2.2 ≤ 22 := fun s e s' e' t xs => by
    unfold Ph.turn
    split
    · show 1 ≤ 22; omega
    · exact hm _ _ _ _ _ _
  match k with
  | 0 => exact ht _ _ _ _ _ _
  | 1 => exact ht _ _ _ _ _ _
  | 2 => exact ht _ _ _ _ _ _
  | 3 => exact ht _ _ _ _ _ _
  | k + 4 => exact hm _ _ _ _ _ _
/-- the state's name -/
def nameOf (s : Int) : ByteArray := if 0 ≤ s ∧ s < 6 then nameB s.toNat else ⟨#[]⟩
theorem nameOf_any (s e : Int) (w : World) (hN : NamesAt w) : Calls Tryd.prog 13 #[phV s e] w fun r w' => r = .returned (.string (nameOf s)) ∧ Below w.heap.size w w' := by
  unfold nameOf
  by_cases h : 0 ≤ s ∧ s < 6
  · rw [if_pos h]
    obtain ⟨i, rfl⟩ := Int.eq_ofNat_of_zero_le h.1
    exact name_known i e w (by omega) hN
  · rw [if_neg h]
    exact name_none s e w h
set_option maxRecDepth 100000 in
set_option maxHeartbeats 8000000 in
theorem pevents_known (s e ev x : Int) (a : Nat → Addr) (w : World) (hS : Sents w a) (hN : NamesAt w) (hs0 : 0 ≤ s) (hs6 : s < 6) :
    Calls Tryd.prog 3 #[phV s e, .int .i64 ev, .int .i64 x] w fun e w' => e = .returned (.bool true) ∧ Below w.heap.size w w' := by
  obtain ⟨w0, hw0⟩ : ∃ w0, w0 = w.alloc (.cells (phC s e) 23) := ⟨_, rfl⟩
  have HP0 : Hid (PhL w w.heap.size s e w0) := Lib.hid ⟨hw0 ▸ Blk.new w _ _, hw0 ▸ (Below.refl _ _).alloc (Nat.le_refl _) _⟩
  have CA := phalive_any a w0 (hS.below HP0.out.2 (Nat.le_refl _))
  have HS := Lib.hid hS
  have HN := Lib.hid hN
  have HW := Lib.hid hw0
  have HS0 := Lib.hid hs0
  have HS6 := Lib.hid hs6
  clear hs0 hs6
  clear hw0 hS hN
  unfold phV
  go_enter Tryd.func3, Tryd.ntmps3
  go_wp2_with (go_at_call 7; refine pause ?_)
  unfold Paused
  rw [← HW.out]
  refine CA.mono ?_
  rintro r w1 ⟨rfl, hb1⟩
  have HP1 := Lib.hid (HP0.out.below hb1)
  clear CA hb1 HW HP0
  clear w0
  obtain ⟨k, hk, r1, r2⟩ := ph_rem ev 5 (by omega) (by omega)
  have r1 : (IntKind.u64.wrap ev).tmod 5 = (k : Int) := r1
  have c0 : w1.cell? ⟨w.heap.size, 0, none⟩ = some (.int .i64 s) := HP1.out.1.cell 0
  have c1 : w1.cell? ⟨w.heap.size, 1, none⟩ = some (.int .i64 e) := HP1.out.1.cell 1
  have CD := do_any k s e x a w1 hk (HS.out.below HP1.out.2 (Nat.le_refl _))
  have HRD : Hid (∀ W, Calls Tryd.prog 9 #[phV s e, .int .i64 (k : Nat), .int .i64 x] W fun r w' => r = .returned (rOut (Ph.run k s e x)) ∧ Below W.heap.size W w') := Lib.hid (fun W => rdo_any k s e x W hk)
  have H22 := Lib.hid (run22 k s e x)
  generalize Ph.run k s e x = q at CD HRD H22
  obtain ⟨q1, q2, q3⟩ := q
  unfold rOut phV at HRD
  unfold phOut phV at CD
  dsimp only at CD HRD H22
  have HCN : Hid (∀ W, Below w.heap.size w W → Calls Tryd.prog 10 #[erV a q3] W fun r w' => r = .returned (.int .i64 (q3 : Nat)) ∧ Below W.heap.size W w') := Lib.hid (fun W h => numE_any q3 H22.out a W (HS.out.below h (Nat.le_refl _)))
  obtain ⟨u, hu⟩ : ∃ u, u = erV a q3 := ⟨_, rfl⟩
  rw [← hu] at CD HCN
  clear hu hk
  go_wp2_with (go_at_call 8; refine pause ?_)
  unfold Paused
  refine CD.mono ?_
  rintro r w2 ⟨rfl, hb2⟩
  have HP2 := Lib.hid (HP1.out.below hb2)
  clear CD hb2 c0 c1 r1 HP1
  go_wp2_with (with_reducible (show wpList _ _ _ (Oper.mk _ (Op.store 23 _ _) _ _ _ _ :: _) _ _); refine pause ?_)
  unfold Paused
  refine wpList_store_row rfl 23 (.tmp 7) (.tmp 23) rfl w2.heap.size (phC q1 q2) (by rfl) (by rfl) 23 (phC 0 0) (Blk.new w2 _ _) ph_load rfl (ph_one _ _) ?_
  have HP3 : Hid (PhL w w.heap.size s e ((w2.alloc (.cells (phC 0 0) 23)).setRow w2.heap.size (phC q1 q2))) := Lib.hid ⟨(HP2.out.1.alloc _).farRow (by have := HP2.out.1.lt; omega) _, below_row (HP2.out.2.alloc HP2.out.2.size _) HP2.out.2.size _⟩
  have HQ3 : Hid (Blk ((w2.alloc (.cells (phC 0 0) 23)).setRow w2.heap.size (phC q1 q2)) w2.heap.size 23 (phC q1 q2)) := Lib.hid ((Blk.new w2 _ _).row _)
  change wpList _ _ _ _ _ ((w2.alloc (.cells (phC 0 0) 23)).setRow w2.heap.size (phC q1 q2))
  generalize (w2.alloc (.cells (phC 0 0) 23)).setRow w2.heap.size (phC q1 q2) = w3 at HP3 HQ3
  clear HP2
  generalize w2.heap.size = B7 at HQ3 ⊢
  have c0 : w3.cell? ⟨w.heap.size, 0, none⟩ = some (.int .i64 s) := HP3.out.1.cell 0
  have c1 : w3.cell? ⟨w.heap.size, 1, none⟩ = some (.int .i64 e) := HP3.out.1.cell 1
  have CD := HRD.out w3
  go_wp2_with (go_at_call 9; refine pause ?_)
  unfold Paused
  refine CD.mono ?_
  rintro r w4 ⟨rfl, hb4⟩
  have HP4 := Lib.hid (HP3.out.below hb4)
  have HQ4 := Lib.hid (HQ3.out.below hb4 HQ3.out.lt)
  clear CD HRD hb4 c0 c1 HP3 HQ3 r2
  go_wp2_with (with_reducible (show wpList _ _ _ (Oper.mk _ (Op.store 30 _ _) _ _ _ _ :: _) _ _); refine pause ?_)
  unfold Paused
  refine wpList_store_row rfl 30 (.tmp 9) (.tmp 30) rfl w4.heap.size (phC q1 q2) (by rfl) (by rfl) 30 (phC 0 0) (Blk.new w4 _ _) rph_load rfl (ph_one _ _) ?_
  have HV : Hid (PhV w s e B7 w4.heap.size q1 q2 ((w4.alloc (.cells (phC 0 0) 30)).setRow w4.heap.size (phC q1 q2))) := Lib.hid ⟨(HP4.out.1.alloc _).farRow (by have := HP4.out.1.lt; omega) _, (HQ4.out.alloc _).farRow (by have := HQ4.out.lt; omega) _, (Blk.new w4 _ _).row _, below_row (HP4.out.2.alloc HP4.out.2.size _) HP4.out.2.size _⟩
  change wpList _ _ _ _ _ ((w4.alloc (.cells (phC 0 0) 30)).setRow w4.heap.size (phC q1 q2))
  generalize (w4.alloc (.cells (phC 0 0) 30)).setRow w4.heap.size (phC q1 q2) = w5 at HV
  clear HP4 HQ4
  generalize w4.heap.size = B9 at HV ⊢
  have c0 : w5.cell? ⟨w.heap.size, 0, none⟩ = some (.int .i64 s) := HV.out.p.cell 0
  have HRT : Hid (∀ W, Calls Tryd.prog 11 #[.agg (phC s e)] W fun r w' => r = .returned (.bool (Ph.rt s e)) ∧ Below W.heap.size W w') := Lib.hid (fun W => right_any s e W)
  have HRR : Hid (∀ W, Calls Tryd.prog 12 #[.agg (phC s e)] W fun r w' => r = .returned (.bool (Ph.rt s e)) ∧ Below W.heap.size W w') := Lib.hid (fun W => rright_any s e W)
  have HNM : Hid (∀ W, Below w.heap.size w W → Calls Tryd.prog 13 #[.agg (phC s e)] W fun r w' => r = .returned (.string (nameOf s)) ∧ Below W.heap.size W w') := Lib.hid (fun W h => nameOf_any s e W (HN.out.below h (Nat.le_refl _)))
  have HWR : Hid (∀ W, Calls Tryd.prog 14 #[.agg (phC s e)] W fun r w' => r = .returned (.bool (s == 2)) ∧ Below W.heap.size W w') := Lib.hid (fun W => writes_any s e W)
  generalize Ph.rt s e = ρ at HRT HRR
  have hs0 := HS0.out
  have hs6 := HS6.out
  clear HS0 HS6
  rcases (show s = 0 ∨ s = 1 ∨ s = 2 ∨ s = 3 ∨ s = 4 ∨ s = 5 by omega) with rfl | rfl | rfl | rfl | rfl | rfl
  · have hv : nameOf 0 = ⟨#[97, 98, 115, 101, 110, 116]⟩ := by unfold nameOf; rw [if_pos (by omega)]; rfl
    rw [hv] at HNM
    clear hv hs0 hs6
    have ca : (w5.alloc (.cells #[.string ⟨#[97, 98, 115, 101, 110, 116]⟩, .string ⟨#[115, 116, 97, 103, 105, 110, 103]⟩, .string ⟨#[115, 101, 114, 118, 105, 110, 103]⟩, .string ⟨#[102, 101, 110, 99, 101, 100]⟩, .string ⟨#[116, 111, 109, 98, 101, 100]⟩, .string ⟨#[103, 111, 110, 101]⟩] 9)).cell? ⟨w.heap.size, 0, none⟩ = some (.int .i64 0) := (HV.out.p.alloc _).cell 0
    go_wp2
    have HSX : Hid (PhV w 0 e B7 B9 q1 q2 (w5.alloc (.cells #[.string ⟨#[97, 98, 115, 101, 110, 116]⟩, .string ⟨#[115, 116, 97, 103, 105, 110, 103]⟩, .string ⟨#[115, 101, 114, 118, 105, 110, 103]⟩, .string ⟨#[102, 101, 110, 99, 101, 100]⟩, .string ⟨#[116, 111, 109, 98, 101, 100]⟩, .string ⟨#[103, 111, 110, 101]⟩] 9)).drew) := Lib.hid ((HV.out.below ((Below.refl _ _).alloc (Nat.le_refl _) _))).drew
    refine wp_region_held (S := PhV w 0 e B7 B9 q1 q2) (by kernel_rfl) ?_
    change wpAnyH _ _ _ _ _ _ _ _ (w5.alloc (.cells #[.string ⟨#[97, 98, 115, 101, 110, 116]⟩, .string ⟨#[115, 116, 97, 103, 105, 110, 103]⟩, .string ⟨#[115, 101, 114, 118, 105, 110, 103]⟩, .string ⟨#[102, 101, 110, 99, 101, 100]⟩, .string ⟨#[116, 111, 109, 98, 101, 100]⟩, .string ⟨#[103, 111, 110, 101]⟩] 9)).drew
    refine wpAnyH_take (i := 0) (v := .agg (phC q1 q2)) rfl (by kernel_rfl) (by kernel_rfl) (by kernel_rfl) (fun _ _ _ h => h) (takes_row 23 (.tmp 7) rfl (by rfl) B7 (by rfl) 23 (phC q1 q2) _ (fun w' hS => hS.q) (by first | exact Tryd.underlying23 | kernel_rfl) (by rfl) ph_load) HSX.out ?_
    try simp only [Act.put, List.getElem_toArray, List.getElem_cons_zero, List.setIfInBounds_toArray, List.set_cons_zero, List.set_cons_succ]
    refine wpAnyH_take (i := 1) (v := .agg (phC q1 q2)) rfl (by kernel_rfl) (by kernel_rfl) (by kernel_rfl) (fun _ _ _ h => h) (takes_row 30 (.tmp 9) rfl (by rfl) B9 (by rfl) 30 (phC q1 q2) _ (fun w' hS => hS.r) (by first | exact Tryd.underlying30 | kernel_rfl) (by rfl) rph_load) HSX.out ?_
    try simp only [Act.put, List.getElem_toArray, List.getElem_cons_zero, List.getElem_cons_succ, List.setIfInBounds_toArray, List.set_cons_zero, List.set_cons_succ]
    refine wpAnyH_take (i := 2) (v := .bool true) rfl (by kernel_rfl) (by kernel_rfl) (by kernel_rfl) (fun _ _ _ h => h) (Or.inl ⟨by rfl, ?_⟩) HSX.out ?_
    · intro w' hS; have h0 := rph_self w' q1 q2; first | (go_simp; done) | (go_simp; with_reducible rfl)
    try simp only [Act.put, List.getElem_toArray, List.getElem_cons_zero, List.getElem_cons_succ, List.setIfInBounds_toArray, List.set_cons_zero, List.set_cons_succ]
    refine wpAnyH_take (i := 3) (v := ?_) rfl (by kernel_rfl) (by kernel_rfl) (by kernel_rfl) (fun _ _ _ h => h) (Or.inl ⟨by rfl, ?_⟩) HSX.out ?_
    rotate_left
    · intro w' hS; go_simp; with_reducible rfl
    try simp only [Act.put, List.getElem_toArray, List.getElem_cons_zero, List.getElem_cons_succ, List.setIfInBounds_toArray, List.set_cons_zero, List.set_cons_succ]
    refine wpAnyH_take (i := 4) (v := ?_) rfl (by kernel_rfl) (by kernel_rfl) (by kernel_rfl) (fun _ _ _ h => h) (Or.inl ⟨by rfl, ?_⟩) HSX.out ?_
    rotate_left
    · intro w' hS; go_simp; with_reducible rfl
    try simp only [Act.put, List.getElem_toArray, List.getElem_cons_zero, List.getElem_cons_succ, List.setIfInBounds_toArray, List.set_cons_zero, List.set_cons_succ]
    refine wpAnyH_take (i := 6) (v := ?_) rfl (by kernel_rfl) (by kernel_rfl) (by kernel_rfl) (fun _ _ _ h => h) (Or.inl ⟨by rfl, ?_⟩) HSX.out ?_
    rotate_left
    · intro w' hS; go_simp; with_reducible rfl
    try simp only [Act.put, List.getElem_toArray, List.getElem_cons_zero, List.getElem_cons_succ, List.setIfInBounds_toArray, List.set_cons_zero, List.set_cons_succ]
    refine all_one (i := 5) (by kernel_rfl) rfl (by rfl) (fun K hK => ?_)
    go_simp
    refine (HCN.out (w5.alloc (.cells #[.string ⟨#[97, 98, 115, 101, 110, 116]⟩, .string ⟨#[115, 116, 97, 103, 105, 110, 103]⟩, .string ⟨#[115, 101, 114, 118, 105, 110, 103]⟩, .string ⟨#[102, 101, 110, 99, 101, 100]⟩, .string ⟨#[116, 111, 109, 98, 101, 100]⟩, .string ⟨#[103, 111, 110, 101]⟩] 9)).drew HSX.out.bel).mono ?_
    rintro r wa ⟨rfl, hb_wa⟩
    have HX_wa := Lib.hid (HSX.out.below hb_wa)
    clear hb_wa
    dsimp only
    refine hK _ _ HX_wa.out ?_
    clear hK
    try simp only [Act.put, List.getElem_toArray, List.getElem_cons_zero, List.getElem_cons_succ, List.setIfInBounds_toArray, List.set_cons_zero, List.set_cons_succ]
    refine wpAnyH_take (i := 7) (v := .bool true) rfl (by kernel_rfl) (by kernel_rfl) (by kernel_rfl) (fun _ _ _ h => h) (Or.inl ⟨by rfl, ?_⟩) HX_wa.out ?_
    · intro w' hS; first | (go_simp; done) | (go_simp; with_reducible rfl)
    try simp only [Act.put, List.getElem_toArray, List.getElem_cons_zero, List.getElem_cons_succ, List.setIfInBounds_toArray, List.set_cons_zero, List.set_cons_succ]
    refine wpAnyH_take (i := 8) (v := ?_) rfl (by kernel_rfl) (by kernel_rfl) (by kernel_rfl) (fun _ _ _ h => h) (Or.inl ⟨by rfl, ?_⟩) HX_wa.out ?_
    rotate_left
    · intro w' hS; go_simp; with_reducible rfl
    try simp only [Act.put, List.getElem_toArray, List.getElem_cons_zero, List.getElem_cons_succ, List.setIfInBounds_toArray, List.set_cons_zero, List.set_cons_succ]
    refine wpAnyH_take (i := 9) (v := ?_) rfl (by kernel_rfl) (by kernel_rfl) (by kernel_rfl) (fun _ _ _ h => h) (Or.inl ⟨by rfl, ?_⟩) HX_wa.out ?_
    rotate_left
    · intro w' hS; go_simp; with_reducible rfl
    try simp only [Act.put, List.getElem_toArray, List.getElem_cons_zero, List.getElem_cons_succ, List.setIfInBounds_toArray, List.set_cons_zero, List.set_cons_succ]
    refine wpAnyH_take (i := 10) (v := .agg (phC 0 e)) rfl (by kernel_rfl) (by kernel_rfl) (by kernel_rfl) (fun _ _ _ h => h) (takes_row 23 (.tmp 3) rfl (by rfl) w.heap.size (by rfl) 23 (phC 0 e) _ (fun w' hS => hS.p) (by first | exact Tryd.underlying23 | kernel_rfl) (by rfl) ph_load) HX_wa.out ?_
    try simp only [Act.put, List.getElem_toArray, List.getElem_cons_zero, List.getElem_cons_succ, List.setIfInBounds_toArray, List.set_cons_zero, List.set_cons_succ]
    refine wpAnyH_take (i := 12) (v := .agg (phC 0 e)) rfl (by kernel_rfl) (by kernel_rfl) (by kernel_rfl) (fun _ _ _ h => h) (Or.inl ⟨by rfl, ?_⟩) HX_wa.out ?_
    · intro w' hS
      have h0 : w'.cell? ⟨w.heap.size, 0, none⟩ = some (.int .i64 0) := hS.p.cell 0
      have h1 : w'.cell? ⟨w.heap.size, 1, none⟩ = some (.int .i64 e) := hS.p.cell 1
      first | (go_simp; done) | (go_simp; with_reducible rfl)
    try simp only [Act.put, List.getElem_toArray, List.getElem_cons_zero, List.getElem_cons_succ, List.setIfInBounds_toArray, List.set_cons_zero, List.set_cons_succ]
    refine all_one (i := 11) (by kernel_rfl) rfl (by rfl) (fun K hK => ?_)
    go_simp
    refine (HRT.out wa).mono ?_
    rintro r wb ⟨rfl, hb_wb⟩
    have HX_wb := Lib.hid (HX_wa.out.below hb_wb)
    clear hb_wb
    dsimp only
    refine hK _ _ HX_wb.out ?_
    clear hK
    try simp only [Act.put, List.getElem_toArray, List.getElem_cons_zero, List.getElem_cons_succ, List.setIfInBounds_toArray, List.set_cons_zero, List.set_cons_succ]
    refine all_one (i := 13) (by kernel_rfl) rfl (by rfl) (fun K hK => ?_)
    go_simp
    refine (HRR.out wb).mono ?_
    rintro r wc ⟨rfl, hb_wc⟩
    have HX_wc := Lib.hid (HX_wb.out.below hb_wc)
    clear hb_wc
    dsimp only
    refine hK _ _ HX_wc.out ?_
    clear hK
    try simp only [Act.put, List.getElem_toArray, List.getElem_cons_zero, List.getElem_cons_succ, List.setIfInBounds_toArray, List.set_cons_zero, List.set_cons_succ]
    refine wpAnyH_take (i := 14) (v := .bool true) rfl (by kernel_rfl) (by kernel_rfl) (by kernel_rfl) (fun _ _ _ h => h) (Or.inl ⟨by rfl, ?_⟩) HX_wc.out ?_
    · intro w' hS; first | (go_simp; done) | (go_simp; with_reducible rfl)
    try simp only [Act.put, List.getElem_toArray, List.getElem_cons_zero, List.getElem_cons_succ, List.setIfInBounds_toArray, List.set_cons_zero, List.set_cons_succ]
    refine wpAnyH_take (i := 15) (v := ?_) rfl (by kernel_rfl) (by kernel_rfl) (by kernel_rfl) (fun _ _ _ h => h) (Or.inl ⟨by rfl, ?_⟩) HX_wc.out ?_
    rotate_left
    · intro w' hS; go_simp; with_reducible rfl
    try simp only [Act.put, List.getElem_toArray, List.getElem_cons_zero, List.getElem_cons_succ, List.setIfInBounds_toArray, List.set_cons_zero, List.set_cons_succ]
    refine wpAnyH_take (i := 16) (v := ?_) rfl (by kernel_rfl) (by kernel_rfl) (by kernel_rfl) (fun _ _ _ h => h) (Or.inl ⟨by rfl, ?_⟩) HX_wc.out ?_
    rotate_left
    · intro w' hS; go_simp; with_reducible rfl
    try simp only [Act.put, List.getElem_toArray, List.getElem_cons_zero, List.getElem_cons_succ, List.setIfInBounds_toArray, List.set_cons_zero, List.set_cons_succ]
    refine wpAnyH_take (i := 17) (v := .agg (phC 0 e)) rfl (by kernel_rfl) (by kernel_rfl) (by kernel_rfl) (fun _ _ _ h => h) (takes_row 23 (.tmp 3) rfl (by rfl) w.heap.size (by rfl) 23 (phC 0 e) _ (fun w' hS => hS.p) (by first | exact Tryd.underlying23 | kernel_rfl) (by rfl) ph_load) HX_wc.out ?_
    try simp only [Act.put, List.getElem_toArray, List.getElem_cons_zero, List.getElem_cons_succ, List.setIfInBounds_toArray, List.set_cons_zero, List.set_cons_succ]
    refine wpAnyH_take (i := 19) (v := ?_) rfl (by kernel_rfl) (by kernel_rfl) (by kernel_rfl) (fun _ _ _ h => h) (Or.inl ⟨by rfl, ?_⟩) HX_wc.out ?_
    rotate_left
    · intro w' hS; go_simp; with_reducible rfl
    try simp only [Act.put, List.getElem_toArray, List.getElem_cons_zero, List.getElem_cons_succ, List.setIfInBounds_toArray, List.set_cons_zero, List.set_cons_succ]
    refine all_one (i := 18) (by kernel_rfl) rfl (by rfl) (fun K hK => ?_)
    go_simp
    refine (HNM.out wc HX_wc.out.bel).mono ?_
    rintro r wd ⟨rfl, hb_wd⟩
    have HX_wd := Lib.hid (HX_wc.out.below hb_wd)
    clear hb_wd
    dsimp only
    refine hK _ _ HX_wd.out ?_
    clear hK
    try simp only [Act.put, List.getElem_toArray, List.getElem_cons_zero, List.getElem_cons_succ, List.setIfInBounds_toArray, List.set_cons_zero, List.set_cons_succ]
    refine wpAnyH_take (i := 20) (v := .bool true) rfl (by kernel_rfl) (by kernel_rfl) (by kernel_rfl) (fun _ _ _ h => h) (Or.inl ⟨by rfl, ?_⟩) HX_wd.out ?_
    · intro w' hS; first | (go_simp; done) | (go_simp; with_reducible rfl)
    try simp only [Act.put, List.getElem_toArray, List.getElem_cons_zero, List.getElem_cons_succ, List.setIfInBounds_toArray, List.set_cons_zero, List.set_cons_succ]
    refine wpAnyH_take (i := 21) (v := ?_) rfl (by kernel_rfl) (by kernel_rfl) (by kernel_rfl) (fun _ _ _ h => h) (Or.inl ⟨by rfl, ?_⟩) HX_wd.out ?_
    rotate_left
    · intro w' hS; go_simp; with_reducible rfl
    try simp only [Act.put, List.getElem_toArray, List.getElem_cons_zero, List.getElem_cons_succ, List.setIfInBounds_toArray, List.set_cons_zero, List.set_cons_succ]
    refine wpAnyH_take (i := 22) (v := ?_) rfl (by kernel_rfl) (by kernel_rfl) (by kernel_rfl) (fun _ _ _ h => h) (Or.inl ⟨by rfl, ?_⟩) HX_wd.out ?_
    rotate_left
    · intro w' hS; go_simp; with_reducible rfl
    try simp only [Act.put, List.getElem_toArray, List.getElem_cons_zero, List.getElem_cons_succ, List.setIfInBounds_toArray, List.set_cons_zero, List.set_cons_succ]
    refine wpAnyH_take (i := 23) (v := .agg (phC 0 e)) rfl (by kernel_rfl) (by kernel_rfl) (by kernel_rfl) (fun _ _ _ h => h) (takes_row 23 (.tmp 3) rfl (by rfl) w.heap.size (by rfl) 23 (phC 0 e) _ (fun w' hS => hS.p) (by first | exact Tryd.underlying23 | kernel_rfl) (by rfl) ph_load) HX_wd.out ?_
    try simp only [Act.put, List.getElem_toArray, List.getElem_cons_zero, List.getElem_cons_succ, List.setIfInBounds_toArray, List.set_cons_zero, List.set_cons_succ]
    refine wpAnyH_take (i := 25) (v := ?_) rfl (by kernel_rfl) (by kernel_rfl) (by kernel_rfl) (fun _ _ _ h => h) (Or.inl ⟨by rfl, ?_⟩) HX_wd.out ?_
    rotate_left
    · intro w' hS; go_simp; with_reducible rfl
    try simp only [Act.put, List.getElem_toArray, List.getElem_cons_zero, List.getElem_cons_succ, List.setIfInBounds_toArray, List.set_cons_zero, List.set_cons_succ]
    refine wpAnyH_take (i := 26) (v := ?_) rfl (by kernel_rfl) (by kernel_rfl) (by kernel_rfl) (fun _ _ _ h => h) (Or.inl ⟨by rfl, ?_⟩) HX_wd.out ?_
    rotate_left
    · intro w' hS; have h0 : w'.cell? ⟨w.heap.size, 0, none⟩ = some (.int .i64 0) := hS.p.cell 0; go_simp; with_reducible rfl
    try simp only [Act.put, List.getElem_toArray, List.getElem_cons_zero, List.getElem_cons_succ, List.setIfInBounds_toArray, List.set_cons_zero, List.set_cons_succ]
    refine wpAnyH_take (i := 27) (v := ?_) rfl (by kernel_rfl) (by kernel_rfl) (by kernel_rfl) (fun _ _ _ h => h) (Or.inl ⟨by rfl, ?_⟩) HX_wd.out ?_
    rotate_left
    · intro w' hS; go_simp; with_reducible rfl
    try simp only [Act.put, List.getElem_toArray, List.getElem_cons_zero, List.getElem_cons_succ, List.setIfInBounds_toArray, List.set_cons_zero, List.set_cons_succ]
    refine all_one (i := 24) (by kernel_rfl) rfl (by rfl) (fun K hK => ?_)
    go_simp
    refine (HWR.out wd).mono ?_
    rintro r we ⟨rfl, hb_we⟩
    have HX_we := Lib.hid (HX_wd.out.below hb_we)
    clear hb_we
    dsimp only
    refine hK _ _ HX_we.out ?_
    clear hK
    try simp only [Act.put, List.getElem_toArray, List.getElem_cons_zero, List.getElem_cons_succ, List.setIfInBounds_toArray, List.set_cons_zero, List.set_cons_succ]
    refine wpAnyH_take (i := 28) (v := .bool true) rfl (by kernel_rfl) (by kernel_rfl) (by kernel_rfl) (fun _ _ _ h => h) (Or.inl ⟨by rfl, ?_⟩) HX_we.out ?_
    · intro w' hS; first | (go_simp; done) | (go_simp; with_reducible rfl)
    try simp only [Act.put, List.getElem_toArray, List.getElem_cons_zero, List.getElem_cons_succ, List.setIfInBounds_toArray, List.set_cons_zero, List.set_cons_succ]
    refine wpAnyH_take (i := 29) (v := ?_) rfl (by kernel_rfl) (by kernel_rfl) (by kernel_rfl) (fun _ _ _ h => h) (Or.inl ⟨by rfl, ?_⟩) HX_we.out ?_
    rotate_left
    · intro w' hS; go_simp; with_reducible rfl
    try simp only [Act.put, List.getElem_toArray, List.getElem_cons_zero, List.getElem_cons_succ, List.setIfInBounds_toArray, List.set_cons_zero, List.set_cons_succ]
    refine wpAnyH_take (i := 30) (v := ?_) rfl (by kernel_rfl) (by kernel_rfl) (by kernel_rfl) (fun _ _ _ h => h) (Or.inl ⟨by rfl, ?_⟩) HX_we.out ?_
    rotate_left
    · intro w' hS; go_simp; with_reducible rfl
    try simp only [Act.put, List.getElem_toArray, List.getElem_cons_zero, List.getElem_cons_succ, List.setIfInBounds_toArray, List.set_cons_zero, List.set_cons_succ]
    refine wpAnyH_done (by kernel_rfl) ?_ _
    go_wp2
    go_ret
    exact ⟨rfl, HX_we.out.bel⟩
  · have hv : nameOf 1 = ⟨#[115, 116, 97, 103, 105, 110, 103]⟩ := by unfold nameOf; rw [if_pos (by omega)]; rfl
    rw [hv] at HNM
    clear hv hs0 hs6
    have ca : (w5.alloc (.cells #[.string ⟨#[97, 98, 115, 101, 110, 116]⟩, .string ⟨#[115, 116, 97, 103, 105, 110, 103]⟩, .string ⟨#[115, 101, 114, 118, 105, 110, 103]⟩, .string ⟨#[102, 101, 110, 99, 101, 100]⟩, .string ⟨#[116, 111, 109, 98, 101, 100]⟩, .string ⟨#[103, 111, 110, 101]⟩] 9)).cell? ⟨w.heap.size, 0, none⟩ = some (.int .i64 1) := (HV.out.p.alloc _).cell 0
    go_wp2
    have HSX : Hid (PhV w 1 e B7 B9 q1 q2 (w5.alloc (.cells #[.string ⟨#[97, 98, 115, 101, 110, 116]⟩, .string ⟨#[115, 116, 97, 103, 105, 110, 103]⟩, .string ⟨#[115, 101, 114, 118, 105, 110, 103]⟩, .string ⟨#[102, 101, 110, 99, 101, 100]⟩, .string ⟨#[116, 111, 109, 98, 101, 100]⟩, .string ⟨#[103, 111, 110, 101]⟩] 9)).drew) := Lib.hid ((HV.out.below ((Below.refl _ _).alloc (Nat.le_refl _) _))).drew
    refine wp_region_held (S := PhV w 1 e B7 B9 q1 q2) (by kernel_rfl) ?_
    change wpAnyH _ _ _ _ _ _ _ _ (w5.alloc (.cells #[.string ⟨#[97, 98, 115, 101, 110, 116]⟩, .string ⟨#[115, 116, 97, 103, 105, 110, 103]⟩, .string ⟨#[115, 101, 114, 118, 105, 110, 103]⟩, .string ⟨#[102, 101, 110, 99, 101, 100]⟩, .string ⟨#[116, 111, 109, 98, 101, 100]⟩, .string ⟨#[103, 111, 110, 101]⟩] 9)).drew
    refine wpAnyH_take (i := 0) (v := .agg (phC q1 q2)) rfl (by kernel_rfl) (by kernel_rfl) (by kernel_rfl) (fun _ _ _ h => h) (takes_row 23 (.tmp 7) rfl (by rfl) B7 (by rfl) 23 (phC q1 q2) _ (fun w' hS => hS.q) (by first | exact Tryd.underlying23 | kernel_rfl) (by rfl) ph_load) HSX.out ?_
    try simp only [Act.put, List.getElem_toArray, List.getElem_cons_zero, List.setIfInBounds_toArray, List.set_cons_zero, List.set_cons_succ]
    refine wpAnyH_take (i := 1) (v := .agg (phC q1 q2)) rfl (by kernel_rfl) (by kernel_rfl) (by kernel_rfl) (fun _ _ _ h => h) (takes_row 30 (.tmp 9) rfl (by rfl) B9 (by rfl) 30 (phC q1 q2) _ (fun w' hS => hS.r) (by first | exact Tryd.underlying30 | kernel_rfl) (by rfl) rph_load) HSX.out ?_
    try simp only [Act.put, List.getElem_toArray, List.getElem_cons_zero, List.getElem_cons_succ, List.setIfInBounds_toArray, List.set_cons_zero, List.set_cons_succ]
    refine wpAnyH_take (i := 2) (v := .bool true) rfl (by kernel_rfl) (by kernel_rfl) (by kernel_rfl) (fun _ _ _ h => h) (Or.inl ⟨by rfl, ?_⟩) HSX.out ?_
    · intro w' hS; have h0 := rph_self w' q1 q2; first | (go_simp; done) | (go_simp; with_reducible rfl)
    try simp only [Act.put, List.getElem_toArray, List.getElem_cons_zero, List.getElem_cons_succ, List.setIfInBounds_toArray, List.set_cons_zero, List.set_cons_succ]
    refine wpAnyH_take (i := 3) (v := ?_) rfl (by kernel_rfl) (by kernel_rfl) (by kernel_rfl) (fun _ _ _ h => h) (Or.inl ⟨by rfl, ?_⟩) HSX.out ?_
    rotate_left
    · intro w' hS; go_simp; with_reducible rfl
    try simp only [Act.put, List.getElem_toArray, List.getElem_cons_zero, List.getElem_cons_succ, List.setIfInBounds_toArray, List.set_cons_zero, List.set_cons_succ]
    refine wpAnyH_take (i := 4) (v := ?_) rfl (by kernel_rfl) (by kernel_rfl) (by kernel_rfl) (fun _ _ _ h => h) (Or.inl ⟨by rfl, ?_⟩) HSX.out ?_
    rotate_left
    · intro w' hS; go_simp; with_reducible rfl
    try simp only [Act.put, List.getElem_toArray, List.getElem_cons_zero, List.getElem_cons_succ, List.setIfInBounds_toArray, List.set_cons_zero, List.set_cons_succ]
    refine wpAnyH_take (i := 6) (v := ?_) rfl (by kernel_rfl) (by kernel_rfl) (by kernel_rfl) (fun _ _ _ h => h) (Or.inl ⟨by rfl, ?_⟩) HSX.out ?_
    rotate_left
    · intro w' hS; go_simp; with_reducible rfl
    try simp only [Act.put, List.getElem_toArray, List.getElem_cons_zero, List.getElem_cons_succ, List.setIfInBounds_toArray, List.set_cons_zero, List.set_cons_succ]
    refine all_one (i := 5) (by kernel_rfl) rfl (by rfl) (fun K hK => ?_)
    go_simp
    refine (HCN.out (w5.alloc (.cells #[.string ⟨#[97, 98, 115, 101, 110, 116]⟩, .string ⟨#[115, 116, 97, 103, 105, 110, 103]⟩, .string ⟨#[115, 101, 114, 118, 105, 110, 103]⟩, .string ⟨#[102, 101, 110, 99, 101, 100]⟩, .string ⟨#[116, 111, 109, 98, 101, 100]⟩, .string ⟨#[103, 111, 110, 101]⟩] 9)).drew HSX.out.bel).mono ?_
    rintro r wa ⟨rfl, hb_wa⟩
    have HX_wa := Lib.hid (HSX.out.below hb_wa)
    clear hb_wa
    dsimp only
    refine hK _ _ HX_wa.out ?_
    clear hK
    try simp only [Act.put, List.getElem_toArray, List.getElem_cons_zero, List.getElem_cons_succ, List.setIfInBounds_toArray, List.set_cons_zero, List.set_cons_succ]
    refine wpAnyH_take (i := 7) (v := .bool true) rfl (by kernel_rfl) (by kernel_rfl) (by kernel_rfl) (fun _ _ _ h => h) (Or.inl ⟨by rfl, ?_⟩) HX_wa.out ?_
    · intro w' hS; first | (go_simp; done) | (go_simp; with_reducible rfl)
    try simp only [Act.put, List.getElem_toArray, List.getElem_cons_zero, List.getElem_cons_succ, List.setIfInBounds_toArray, List.set_cons_zero, List.set_cons_succ]
    refine wpAnyH_take (i := 8) (v := ?_) rfl (by kernel_rfl) (by kernel_rfl) (by kernel_rfl) (fun _ _ _ h => h) (Or.inl ⟨by rfl, ?_⟩) HX_wa.out ?_
    rotate_left
    · intro w' hS; go_simp; with_reducible rfl
    try simp only [Act.put, List.getElem_toArray, List.getElem_cons_zero, List.getElem_cons_succ, List.setIfInBounds_toArray, List.set_cons_zero, List.set_cons_succ]
    refine wpAnyH_take (i := 9) (v := ?_) rfl (by kernel_rfl) (by kernel_rfl) (by kernel_rfl) (fun _ _ _ h => h) (Or.inl ⟨by rfl, ?_⟩) HX_wa.out ?_
    rotate_left
    · intro w' hS; go_simp; with_reducible rfl
    try simp only [Act.put, List.getElem_toArray, List.getElem_cons_zero, List.getElem_cons_succ, List.setIfInBounds_toArray, List.set_cons_zero, List.set_cons_succ]
    refine wpAnyH_take (i := 10) (v := .agg (phC 1 e)) rfl (by kernel_rfl) (by kernel_rfl) (by kernel_rfl) (fun _ _ _ h => h) (takes_row 23 (.tmp 3) rfl (by rfl) w.heap.size (by rfl) 23 (phC 1 e) _ (fun w' hS => hS.p) (by first | exact Tryd.underlying23 | kernel_rfl) (by rfl) ph_load) HX_wa.out ?_
    try simp only [Act.put, List.getElem_toArray, List.getElem_cons_zero, List.getElem_cons_succ, List.setIfInBounds_toArray, List.set_cons_zero, List.set_cons_succ]
    refine wpAnyH_take (i := 12) (v := .agg (phC 1 e)) rfl (by kernel_rfl) (by kernel_rfl) (by kernel_rfl) (fun _ _ _ h => h) (Or.inl ⟨by rfl, ?_⟩) HX_wa.out ?_
    · intro w' hS
      have h0 : w'.cell? ⟨w.heap.size, 0, none⟩ = some (.int .i64 1) := hS.p.cell 0
      have h1 : w'.cell? ⟨w.heap.size, 1, none⟩ = some (.int .i64 e) := hS.p.cell 1
      first | (go_simp; done) | (go_simp; with_reducible rfl)
    try simp only [Act.put, List.getElem_toArray, List.getElem_cons_zero, List.getElem_cons_succ, List.setIfInBounds_toArray, List.set_cons_zero, List.set_cons_succ]
    refine all_one (i := 11) (by kernel_rfl) rfl (by rfl) (fun K hK => ?_)
    go_simp
    refine (HRT.out wa).mono ?_
    rintro r wb ⟨rfl, hb_wb⟩
    have HX_wb := Lib.hid (HX_wa.out.below hb_wb)
    clear hb_wb
    dsimp only
    refine hK _ _ HX_wb.out ?_
    clear hK
    try simp only [Act.put, List.getElem_toArray, List.getElem_cons_zero, List.getElem_cons_succ, List.setIfInBounds_toArray, List.set_cons_zero, List.set_cons_succ]
    refine all_one (i := 13) (by kernel_rfl) rfl (by rfl) (fun K hK => ?_)
    go_simp
    refine (HRR.out wb).mono ?_
    rintro r wc ⟨rfl, hb_wc⟩
    have HX_wc := Lib.hid (HX_wb.out.below hb_wc)
    clear hb_wc
    dsimp only
    refine hK _ _ HX_wc.out ?_
    clear hK
    try simp only [Act.put, List.getElem_toArray, List.getElem_cons_zero, List.getElem_cons_succ, List.setIfInBounds_toArray, List.set_cons_zero, List.set_cons_succ]
    refine wpAnyH_take (i := 14) (v := .bool true) rfl (by kernel_rfl) (by kernel_rfl) (by kernel_rfl) (fun _ _ _ h => h) (Or.inl ⟨by rfl, ?_⟩) HX_wc.out ?_
    · intro w' hS; first | (go_simp; done) | (go_simp; with_reducible rfl)
    try simp only [Act.put, List.getElem_toArray, List.getElem_cons_zero, List.getElem_cons_succ, List.setIfInBounds_toArray, List.set_cons_zero, List.set_cons_succ]
    refine wpAnyH_take (i := 15) (v := ?_) rfl (by kernel_rfl) (by kernel_rfl) (by kernel_rfl) (fun _ _ _ h => h) (Or.inl ⟨by rfl, ?_⟩) HX_wc.out ?_
    rotate_left
    · intro w' hS; go_simp; with_reducible rfl
    try simp only [Act.put, List.getElem_toArray, List.getElem_cons_zero, List.getElem_cons_succ, List.setIfInBounds_toArray, List.set_cons_zero, List.set_cons_succ]
    refine wpAnyH_take (i := 16) (v := ?_) rfl (by kernel_rfl) (by kernel_rfl) (by kernel_rfl) (fun _ _ _ h => h) (Or.inl ⟨by rfl, ?_⟩) HX_wc.out ?_
    rotate_left
    · intro w' hS; go_simp; with_reducible rfl
    try simp only [Act.put, List.getElem_toArray, List.getElem_cons_zero, List.getElem_cons_succ, List.setIfInBounds_toArray, List.set_cons_zero, List.set_cons_succ]
    refine wpAnyH_take (i := 17) (v := .agg (phC 1 e)) rfl (by kernel_rfl) (by kernel_rfl) (by kernel_rfl) (fun _ _ _ h => h) (takes_row 23 (.tmp 3) rfl (by rfl) w.heap.size (by rfl) 23 (phC 1 e) _ (fun w' hS => hS.p) (by first | exact Tryd.underlying23 | kernel_rfl) (by rfl) ph_load) HX_wc.out ?_
    try simp only [Act.put, List.getElem_toArray, List.getElem_cons_zero, List.getElem_cons_succ, List.setIfInBounds_toArray, List.set_cons_zero, List.set_cons_succ]
    refine wpAnyH_take (i := 19) (v := ?_) rfl (by kernel_rfl) (by kernel_rfl) (by kernel_rfl) (fun _ _ _ h => h) (Or.inl ⟨by rfl, ?_⟩) HX_wc.out ?_
    rotate_left
    · intro w' hS; go_simp; with_reducible rfl
    try simp only [Act.put, List.getElem_toArray, List.getElem_cons_zero, List.getElem_cons_succ, List.setIfInBounds_toArray, List.set_cons_zero, List.set_cons_succ]
    refine all_one (i := 18) (by kernel_rfl) rfl (by rfl) (fun K hK => ?_)
    go_simp
    refine (HNM.out wc HX_wc.out.bel).mono ?_
    rintro r wd ⟨rfl, hb_wd⟩
    have HX_wd := Lib.hid (HX_wc.out.below hb_wd)
    clear hb_wd
    dsimp only
    refine hK _ _ HX_wd.out ?_
    clear hK
    try simp only [Act.put, List.getElem_toArray, List.getElem_cons_zero, List.getElem_cons_succ, List.setIfInBounds_toArray, List.set_cons_zero, List.set_cons_succ]
    refine wpAnyH_take (i := 20) (v := .bool true) rfl (by kernel_rfl) (by kernel_rfl) (by kernel_rfl) (fun _ _ _ h => h) (Or.inl ⟨by rfl, ?_⟩) HX_wd.out ?_
    · intro w' hS; first | (go_simp; done) | (go_simp; with_reducible rfl)
    try simp only [Act.put, List.getElem_toArray, List.getElem_cons_zero, List.getElem_cons_succ, List.setIfInBounds_toArray, List.set_cons_zero, List.set_cons_succ]
    refine wpAnyH_take (i := 21) (v := ?_) rfl (by kernel_rfl) (by kernel_rfl) (by kernel_rfl) (fun _ _ _ h => h) (Or.inl ⟨by rfl, ?_⟩) HX_wd.out ?_
    rotate_left
    · intro w' hS; go_simp; with_reducible rfl
    try simp only [Act.put, List.getElem_toArray, List.getElem_cons_zero, List.getElem_cons_succ, List.setIfInBounds_toArray, List.set_cons_zero, List.set_cons_succ]
    refine wpAnyH_take (i := 22) (v := ?_) rfl (by kernel_rfl) (by kernel_rfl) (by kernel_rfl) (fun _ _ _ h => h) (Or.inl ⟨by rfl, ?_⟩) HX_wd.out ?_
    rotate_left
    · intro w' hS; go_simp; with_reducible rfl
    try simp only [Act.put, List.getElem_toArray, List.getElem_cons_zero, List.getElem_cons_succ, List.setIfInBounds_toArray, List.set_cons_zero, List.set_cons_succ]
    refine wpAnyH_take (i := 23) (v := .agg (phC 1 e)) rfl (by kernel_rfl) (by kernel_rfl) (by kernel_rfl) (fun _ _ _ h => h) (takes_row 23 (.tmp 3) rfl (by rfl) w.heap.size (by rfl) 23 (phC 1 e) _ (fun w' hS => hS.p) (by first | exact Tryd.underlying23 | kernel_rfl) (by rfl) ph_load) HX_wd.out ?_
    try simp only [Act.put, List.getElem_toArray, List.getElem_cons_zero, List.getElem_cons_succ, List.setIfInBounds_toArray, List.set_cons_zero, List.set_cons_succ]
    refine wpAnyH_take (i := 25) (v := ?_) rfl (by kernel_rfl) (by kernel_rfl) (by kernel_rfl) (fun _ _ _ h => h) (Or.inl ⟨by rfl, ?_⟩) HX_wd.out ?_
    rotate_left
    · intro w' hS; go_simp; with_reducible rfl
    try simp only [Act.put, List.getElem_toArray, List.getElem_cons_zero, List.getElem_cons_succ, List.setIfInBounds_toArray, List.set_cons_zero, List.set_cons_succ]
    refine wpAnyH_take (i := 26) (v := ?_) rfl (by kernel_rfl) (by kernel_rfl) (by kernel_rfl) (fun _ _ _ h => h) (Or.inl ⟨by rfl, ?_⟩) HX_wd.out ?_
    rotate_left
    · intro w' hS; have h0 : w'.cell? ⟨w.heap.size, 0, none⟩ = some (.int .i64 1) := hS.p.cell 0; go_simp; with_reducible rfl
    try simp only [Act.put, List.getElem_toArray, List.getElem_cons_zero, List.getElem_cons_succ, List.setIfInBounds_toArray, List.set_cons_zero, List.set_cons_succ]
    refine wpAnyH_take (i := 27) (v := ?_) rfl (by kernel_rfl) (by kernel_rfl) (by kernel_rfl) (fun _ _ _ h => h) (Or.inl ⟨by rfl, ?_⟩) HX_wd.out ?_
    rotate_left
    · intro w' hS; go_simp; with_reducible rfl
    try simp only [Act.put, List.getElem_toArray, List.getElem_cons_zero, List.getElem_cons_succ, List.setIfInBounds_toArray, List.set_cons_zero, List.set_cons_succ]
    refine all_one (i := 24) (by kernel_rfl) rfl (by rfl) (fun K hK => ?_)
    go_simp
    refine (HWR.out wd).mono ?_
    rintro r we ⟨rfl, hb_we⟩
    have HX_we := Lib.hid (HX_wd.out.below hb_we)
    clear hb_we
    dsimp only
    refine hK _ _ HX_we.out ?_
    clear hK
    try simp only [Act.put, List.getElem_toArray, List.getElem_cons_zero, List.getElem_cons_succ, List.setIfInBounds_toArray, List.set_cons_zero, List.set_cons_succ]
    refine wpAnyH_take (i := 28) (v := .bool true) rfl (by kernel_rfl) (by kernel_rfl) (by kernel_rfl) (fun _ _ _ h => h) (Or.inl ⟨by rfl, ?_⟩) HX_we.out ?_
    · intro w' hS; first | (go_simp; done) | (go_simp; with_reducible rfl)
    try simp only [Act.put, List.getElem_toArray, List.getElem_cons_zero, List.getElem_cons_succ, List.setIfInBounds_toArray, List.set_cons_zero, List.set_cons_succ]
    refine wpAnyH_take (i := 29) (v := ?_) rfl (by kernel_rfl) (by kernel_rfl) (by kernel_rfl) (fun _ _ _ h => h) (Or.inl ⟨by rfl, ?_⟩) HX_we.out ?_
    rotate_left
    · intro w' hS; go_simp; with_reducible rfl
    try simp only [Act.put, List.getElem_toArray, List.getElem_cons_zero, List.getElem_cons_succ, List.setIfInBounds_toArray, List.set_cons_zero, List.set_cons_succ]
    refine wpAnyH_take (i := 30) (v := ?_) rfl (by kernel_rfl) (by kernel_rfl) (by kernel_rfl) (fun _ _ _ h => h) (Or.inl ⟨by rfl, ?_⟩) HX_we.out ?_
    rotate_left
    · intro w' hS; go_simp; with_reducible rfl
    try simp only [Act.put, List.getElem_toArray, List.getElem_cons_zero, List.getElem_cons_succ, List.setIfInBounds_toArray, List.set_cons_zero, List.set_cons_succ]
    refine wpAnyH_done (by kernel_rfl) ?_ _
    go_wp2
    go_ret
    exact ⟨rfl, HX_we.out.bel⟩
  · have hv : nameOf 2 = ⟨#[115, 101, 114, 118, 105, 110, 103]⟩ := by unfold nameOf; rw [if_pos (by omega)]; rfl
    rw [hv] at HNM
    clear hv hs0 hs6
    have ca : (w5.alloc (.cells #[.string ⟨#[97, 98, 115, 101, 110, 116]⟩, .string ⟨#[115, 116, 97, 103, 105, 110, 103]⟩, .string ⟨#[115, 101, 114, 118, 105, 110, 103]⟩, .string ⟨#[102, 101, 110, 99, 101, 100]⟩, .string ⟨#[116, 111, 109, 98, 101, 100]⟩, .string ⟨#[103, 111, 110, 101]⟩] 9)).cell? ⟨w.heap.size, 0, none⟩ = some (.int .i64 2) := (HV.out.p.alloc _).cell 0
    go_wp2
    have HSX : Hid (PhV w 2 e B7 B9 q1 q2 (w5.alloc (.cells #[.string ⟨#[97, 98, 115, 101, 110, 116]⟩, .string ⟨#[115, 116, 97, 103, 105, 110, 103]⟩, .string ⟨#[115, 101, 114, 118, 105, 110, 103]⟩, .string ⟨#[102, 101, 110, 99, 101, 100]⟩, .string ⟨#[116, 111, 109, 98, 101, 100]⟩, .string ⟨#[103, 111, 110, 101]⟩] 9)).drew) := Lib.hid ((HV.out.below ((Below.refl _ _).alloc (Nat.le_refl _) _))).drew
    refine wp_region_held (S := PhV w 2 e B7 B9 q1 q2) (by kernel_rfl) ?_
    change wpAnyH _ _ _ _ _ _ _ _ (w5.alloc (.cells #[.string ⟨#[97, 98, 115, 101, 110, 116]⟩, .string ⟨#[115, 116, 97, 103, 105, 110, 103]⟩, .string ⟨#[115, 101, 114, 118, 105, 110, 103]⟩, .string ⟨#[102, 101, 110, 99, 101, 100]⟩, .string ⟨#[116, 111, 109, 98, 101, 100]⟩, .string ⟨#[103, 111, 110, 101]⟩] 9)).drew
    refine wpAnyH_take (i := 0) (v := .agg (phC q1 q2)) rfl (by kernel_rfl) (by kernel_rfl) (by kernel_rfl) (fun _ _ _ h => h) (takes_row 23 (.tmp 7) rfl (by rfl) B7 (by rfl) 23 (phC q1 q2) _ (fun w' hS => hS.q) (by first | exact Tryd.underlying23 | kernel_rfl) (by rfl) ph_load) HSX.out ?_
    try simp only [Act.put, List.getElem_toArray, List.getElem_cons_zero, List.setIfInBounds_toArray, List.set_cons_zero, List.set_cons_succ]
    refine wpAnyH_take (i := 1) (v := .agg (phC q1 q2)) rfl (by kernel_rfl) (by kernel_rfl) (by kernel_rfl) (fun _ _ _ h => h) (takes_row 30 (.tmp 9) rfl (by rfl) B9 (by rfl) 30 (phC q1 q2) _ (fun w' hS => hS.r) (by first | exact Tryd.underlying30 | kernel_rfl) (by rfl) rph_load) HSX.out ?_
    try simp only [Act.put, List.getElem_toArray, List.getElem_cons_zero, List.getElem_cons_succ, List.setIfInBounds_toArray, List.set_cons_zero, List.set_cons_succ]
    refine wpAnyH_take (i := 2) (v := .bool true) rfl (by kernel_rfl) (by kernel_rfl) (by kernel_rfl) (fun _ _ _ h => h) (Or.inl ⟨by rfl, ?_⟩) HSX.out ?_
    · intro w' hS; have h0 := rph_self w' q1 q2; first | (go_simp; done) | (go_simp; with_reducible rfl)
    try simp only [Act.put, List.getElem_toArray, List.getElem_cons_zero, List.getElem_cons_succ, List.setIfInBounds_toArray, List.set_cons_zero, List.set_cons_succ]
    refine wpAnyH_take (i := 3) (v := ?_) rfl (by kernel_rfl) (by kernel_rfl) (by kernel_rfl) (fun _ _ _ h => h) (Or.inl ⟨by rfl, ?_⟩) HSX.out ?_
    rotate_left
    · intro w' hS; go_simp; with_reducible rfl
    try simp only [Act.put, List.getElem_toArray, List.getElem_cons_zero, List.getElem_cons_succ, List.setIfInBounds_toArray, List.set_cons_zero, List.set_cons_succ]
    refine wpAnyH_take (i := 4) (v := ?_) rfl (by kernel_rfl) (by kernel_rfl) (by kernel_rfl) (fun _ _ _ h => h) (Or.inl ⟨by rfl, ?_⟩) HSX.out ?_
    rotate_left
    · intro w' hS; go_simp; with_reducible rfl
    try simp only [Act.put, List.getElem_toArray, List.getElem_cons_zero, List.getElem_cons_succ, List.setIfInBounds_toArray, List.set_cons_zero, List.set_cons_succ]
    refine wpAnyH_take (i := 6) (v := ?_) rfl (by kernel_rfl) (by kernel_rfl) (by kernel_rfl) (fun _ _ _ h => h) (Or.inl ⟨by rfl, ?_⟩) HSX.out ?_
    rotate_left
    · intro w' hS; go_simp; with_reducible rfl
    try simp only [Act.put, List.getElem_toArray, List.getElem_cons_zero, List.getElem_cons_succ, List.setIfInBounds_toArray, List.set_cons_zero, List.set_cons_succ]
    refine all_one (i := 5) (by kernel_rfl) rfl (by rfl) (fun K hK => ?_)
    go_simp
    refine (HCN.out (w5.alloc (.cells #[.string ⟨#[97, 98, 115, 101, 110, 116]⟩, .string ⟨#[115, 116, 97, 103, 105, 110, 103]⟩, .string ⟨#[115, 101, 114, 118, 105, 110, 103]⟩, .string ⟨#[102, 101, 110, 99, 101, 100]⟩, .string ⟨#[116, 111, 109, 98, 101, 100]⟩, .string ⟨#[103, 111, 110, 101]⟩] 9)).drew HSX.out.bel).mono ?_
    rintro r wa ⟨rfl, hb_wa⟩
    have HX_wa := Lib.hid (HSX.out.below hb_wa)
    clear hb_wa
    dsimp only
    refine hK _ _ HX_wa.out ?_
    clear hK
    try simp only [Act.put, List.getElem_toArray, List.getElem_cons_zero, List.getElem_cons_succ, List.setIfInBounds_toArray, List.set_cons_zero, List.set_cons_succ]
    refine wpAnyH_take (i := 7) (v := .bool true) rfl (by kernel_rfl) (by kernel_rfl) (by kernel_rfl) (fun _ _ _ h => h) (Or.inl ⟨by rfl, ?_⟩) HX_wa.out ?_
    · intro w' hS; first | (go_simp; done) | (go_simp; with_reducible rfl)
    try simp only [Act.put, List.getElem_toArray, List.getElem_cons_zero, List.getElem_cons_succ, List.setIfInBounds_toArray, List.set_cons_zero, List.set_cons_succ]
    refine wpAnyH_take (i := 8) (v := ?_) rfl (by kernel_rfl) (by kernel_rfl) (by kernel_rfl) (fun _ _ _ h => h) (Or.inl ⟨by rfl, ?_⟩) HX_wa.out ?_
    rotate_left
    · intro w' hS; go_simp; with_reducible rfl
    try simp only [Act.put, List.getElem_toArray, List.getElem_cons_zero, List.getElem_cons_succ, List.setIfInBounds_toArray, List.set_cons_zero, List.set_cons_succ]
    refine wpAnyH_take (i := 9) (v := ?_) rfl (by kernel_rfl) (by kernel_rfl) (by kernel_rfl) (fun _ _ _ h => h) (Or.inl ⟨by rfl, ?_⟩) HX_wa.out ?_
    rotate_left
    · intro w' hS; go_simp; with_reducible rfl
    try simp only [Act.put, List.getElem_toArray, List.getElem_cons_zero, List.getElem_cons_succ, List.setIfInBounds_toArray, List.set_cons_zero, List.set_cons_succ]
    refine wpAnyH_take (i := 10) (v := .agg (phC 2 e)) rfl (by kernel_rfl) (by kernel_rfl) (by kernel_rfl) (fun _ _ _ h => h) (takes_row 23 (.tmp 3) rfl (by rfl) w.heap.size (by rfl) 23 (phC 2 e) _ (fun w' hS => hS.p) (by first | exact Tryd.underlying23 | kernel_rfl) (by rfl) ph_load) HX_wa.out ?_
    try simp only [Act.put, List.getElem_toArray, List.getElem_cons_zero, List.getElem_cons_succ, List.setIfInBounds_toArray, List.set_cons_zero, List.set_cons_succ]
    refine wpAnyH_take (i := 12) (v := .agg (phC 2 e)) rfl (by kernel_rfl) (by kernel_rfl) (by kernel_rfl) (fun _ _ _ h => h) (Or.inl ⟨by rfl, ?_⟩) HX_wa.out ?_
    · intro w' hS
      have h0 : w'.cell? ⟨w.heap.size, 0, none⟩ = some (.int .i64 2) := hS.p.cell 0
      have h1 : w'.cell? ⟨w.heap.size, 1, none⟩ = some (.int .i64 e) := hS.p.cell 1
      first | (go_simp; done) | (go_simp; with_reducible rfl)
    try simp only [Act.put, List.getElem_toArray, List.getElem_cons_zero, List.getElem_cons_succ, List.setIfInBounds_toArray, List.set_cons_zero, List.set_cons_succ]
    refine all_one (i := 11) (by kernel_rfl) rfl (by rfl) (fun K hK => ?_)
    go_simp
    refine (HRT.out wa).mono ?_
    rintro r wb ⟨rfl, hb_wb⟩
    have HX_wb := Lib.hid (HX_wa.out.below hb_wb)
    clear hb_wb
    dsimp only
    refine hK _ _ HX_wb.out ?_
    clear hK
    try simp only [Act.put, List.getElem_toArray, List.getElem_cons_zero, List.getElem_cons_succ, List.setIfInBounds_toArray, List.set_cons_zero, List.set_cons_succ]
    refine all_one (i := 13) (by kernel_rfl) rfl (by rfl) (fun K hK => ?_)
    go_simp
    refine (HRR.out wb).mono ?_
    rintro r wc ⟨rfl, hb_wc⟩
    have HX_wc := Lib.hid (HX_wb.out.below hb_wc)
    clear hb_wc
    dsimp only
    refine hK _ _ HX_wc.out ?_
    clear hK
    try simp only [Act.put, List.getElem_toArray, List.getElem_cons_zero, List.getElem_cons_succ, List.setIfInBounds_toArray, List.set_cons_zero, List.set_cons_succ]
    refine wpAnyH_take (i := 14) (v := .bool true) rfl (by kernel_rfl) (by kernel_rfl) (by kernel_rfl) (fun _ _ _ h => h) (Or.inl ⟨by rfl, ?_⟩) HX_wc.out ?_
    · intro w' hS; first | (go_simp; done) | (go_simp; with_reducible rfl)
    try simp only [Act.put, List.getElem_toArray, List.getElem_cons_zero, List.getElem_cons_succ, List.setIfInBounds_toArray, List.set_cons_zero, List.set_cons_succ]
    refine wpAnyH_take (i := 15) (v := ?_) rfl (by kernel_rfl) (by kernel_rfl) (by kernel_rfl) (fun _ _ _ h => h) (Or.inl ⟨by rfl, ?_⟩) HX_wc.out ?_
    rotate_left
    · intro w' hS; go_simp; with_reducible rfl
    try simp only [Act.put, List.getElem_toArray, List.getElem_cons_zero, List.getElem_cons_succ, List.setIfInBounds_toArray, List.set_cons_zero, List.set_cons_succ]
    refine wpAnyH_take (i := 16) (v := ?_) rfl (by kernel_rfl) (by kernel_rfl) (by kernel_rfl) (fun _ _ _ h => h) (Or.inl ⟨by rfl, ?_⟩) HX_wc.out ?_
    rotate_left
    · intro w' hS; go_simp; with_reducible rfl
    try simp only [Act.put, List.getElem_toArray, List.getElem_cons_zero, List.getElem_cons_succ, List.setIfInBounds_toArray, List.set_cons_zero, List.set_cons_succ]
    refine wpAnyH_take (i := 17) (v := .agg (phC 2 e)) rfl (by kernel_rfl) (by kernel_rfl) (by kernel_rfl) (fun _ _ _ h => h) (takes_row 23 (.tmp 3) rfl (by rfl) w.heap.size (by rfl) 23 (phC 2 e) _ (fun w' hS => hS.p) (by first | exact Tryd.underlying23 | kernel_rfl) (by rfl) ph_load) HX_wc.out ?_
    try simp only [Act.put, List.getElem_toArray, List.getElem_cons_zero, List.getElem_cons_succ, List.setIfInBounds_toArray, List.set_cons_zero, List.set_cons_succ]
    refine wpAnyH_take (i := 19) (v := ?_) rfl (by kernel_rfl) (by kernel_rfl) (by kernel_rfl) (fun _ _ _ h => h) (Or.inl ⟨by rfl, ?_⟩) HX_wc.out ?_
    rotate_left
    · intro w' hS; go_simp; with_reducible rfl
    try simp only [Act.put, List.getElem_toArray, List.getElem_cons_zero, List.getElem_cons_succ, List.setIfInBounds_toArray, List.set_cons_zero, List.set_cons_succ]
    refine all_one (i := 18) (by kernel_rfl) rfl (by rfl) (fun K hK => ?_)
    go_simp
    refine (HNM.out wc HX_wc.out.bel).mono ?_
    rintro r wd ⟨rfl, hb_wd⟩
    have HX_wd := Lib.hid (HX_wc.out.below hb_wd)
    clear hb_wd
    dsimp only
    refine hK _ _ HX_wd.out ?_
    clear hK
    try simp only [Act.put, List.getElem_toArray, List.getElem_cons_zero, List.getElem_cons_succ, List.setIfInBounds_toArray, List.set_cons_zero, List.set_cons_succ]
    refine wpAnyH_take (i := 20) (v := .bool true) rfl (by kernel_rfl) (by kernel_rfl) (by kernel_rfl) (fun _ _ _ h => h) (Or.inl ⟨by rfl, ?_⟩) HX_wd.out ?_
    · intro w' hS; first | (go_simp; done) | (go_simp; with_reducible rfl)
    try simp only [Act.put, List.getElem_toArray, List.getElem_cons_zero, List.getElem_cons_succ, List.setIfInBounds_toArray, List.set_cons_zero, List.set_cons_succ]
    refine wpAnyH_take (i := 21) (v := ?_) rfl (by kernel_rfl) (by kernel_rfl) (by kernel_rfl) (fun _ _ _ h => h) (Or.inl ⟨by rfl, ?_⟩) HX_wd.out ?_
    rotate_left
    · intro w' hS; go_simp; with_reducible rfl
    try simp only [Act.put, List.getElem_toArray, List.getElem_cons_zero, List.getElem_cons_succ, List.setIfInBounds_toArray, List.set_cons_zero, List.set_cons_succ]
    refine wpAnyH_take (i := 22) (v := ?_) rfl (by kernel_rfl) (by kernel_rfl) (by kernel_rfl) (fun _ _ _ h => h) (Or.inl ⟨by rfl, ?_⟩) HX_wd.out ?_
    rotate_left
    · intro w' hS; go_simp; with_reducible rfl
    try simp only [Act.put, List.getElem_toArray, List.getElem_cons_zero, List.getElem_cons_succ, List.setIfInBounds_toArray, List.set_cons_zero, List.set_cons_succ]
    refine wpAnyH_take (i := 23) (v := .agg (phC 2 e)) rfl (by kernel_rfl) (by kernel_rfl) (by kernel_rfl) (fun _ _ _ h => h) (takes_row 23 (.tmp 3) rfl (by rfl) w.heap.size (by rfl) 23 (phC 2 e) _ (fun w' hS => hS.p) (by first | exact Tryd.underlying23 | kernel_rfl) (by rfl) ph_load) HX_wd.out ?_
    try simp only [Act.put, List.getElem_toArray, List.getElem_cons_zero, List.getElem_cons_succ, List.setIfInBounds_toArray, List.set_cons_zero, List.set_cons_succ]
    refine wpAnyH_take (i := 25) (v := ?_) rfl (by kernel_rfl) (by kernel_rfl) (by kernel_rfl) (fun _ _ _ h => h) (Or.inl ⟨by rfl, ?_⟩) HX_wd.out ?_
    rotate_left
    · intro w' hS; go_simp; with_reducible rfl
    try simp only [Act.put, List.getElem_toArray, List.getElem_cons_zero, List.getElem_cons_succ, List.setIfInBounds_toArray, List.set_cons_zero, List.set_cons_succ]
    refine wpAnyH_take (i := 26) (v := ?_) rfl (by kernel_rfl) (by kernel_rfl) (by kernel_rfl) (fun _ _ _ h => h) (Or.inl ⟨by rfl, ?_⟩) HX_wd.out ?_
    rotate_left
    · intro w' hS; have h0 : w'.cell? ⟨w.heap.size, 0, none⟩ = some (.int .i64 2) := hS.p.cell 0; go_simp; with_reducible rfl
    try simp only [Act.put, List.getElem_toArray, List.getElem_cons_zero, List.getElem_cons_succ, List.setIfInBounds_toArray, List.set_cons_zero, List.set_cons_succ]
    refine wpAnyH_take (i := 27) (v := ?_) rfl (by kernel_rfl) (by kernel_rfl) (by kernel_rfl) (fun _ _ _ h => h) (Or.inl ⟨by rfl, ?_⟩) HX_wd.out ?_
    rotate_left
    · intro w' hS; go_simp; with_reducible rfl
    try simp only [Act.put, List.getElem_toArray, List.getElem_cons_zero, List.getElem_cons_succ, List.setIfInBounds_toArray, List.set_cons_zero, List.set_cons_succ]
    refine all_one (i := 24) (by kernel_rfl) rfl (by rfl) (fun K hK => ?_)
    go_simp
    refine (HWR.out wd).mono ?_
    rintro r we ⟨rfl, hb_we⟩
    have HX_we := Lib.hid (HX_wd.out.below hb_we)
    clear hb_we
    dsimp only
    refine hK _ _ HX_we.out ?_
    clear hK
    try simp only [Act.put, List.getElem_toArray, List.getElem_cons_zero, List.getElem_cons_succ, List.setIfInBounds_toArray, List.set_cons_zero, List.set_cons_succ]
    refine wpAnyH_take (i := 28) (v := .bool true) rfl (by kernel_rfl) (by kernel_rfl) (by kernel_rfl) (fun _ _ _ h => h) (Or.inl ⟨by rfl, ?_⟩) HX_we.out ?_
    · intro w' hS; first | (go_simp; done) | (go_simp; with_reducible rfl)
    try simp only [Act.put, List.getElem_toArray, List.getElem_cons_zero, List.getElem_cons_succ, List.setIfInBounds_toArray, List.set_cons_zero, List.set_cons_succ]
    refine wpAnyH_take (i := 29) (v := ?_) rfl (by kernel_rfl) (by kernel_rfl) (by kernel_rfl) (fun _ _ _ h => h) (Or.inl ⟨by rfl, ?_⟩) HX_we.out ?_
    rotate_left
    · intro w' hS; go_simp; with_reducible rfl
    try simp only [Act.put, List.getElem_toArray, List.getElem_cons_zero, List.getElem_cons_succ, List.setIfInBounds_toArray, List.set_cons_zero, List.set_cons_succ]
    refine wpAnyH_take (i := 30) (v := ?_) rfl (by kernel_rfl) (by kernel_rfl) (by kernel_rfl) (fun _ _ _ h => h) (Or.inl ⟨by rfl, ?_⟩) HX_we.out ?_
    rotate_left
    · intro w' hS; go_simp; with_reducible rfl
    try simp only [Act.put, List.getElem_toArray, List.getElem_cons_zero, List.getElem_cons_succ, List.setIfInBounds_toArray, List.set_cons_zero, List.set_cons_succ]
    refine wpAnyH_done (by kernel_rfl) ?_ _
    go_wp2
    go_ret
    exact ⟨rfl, HX_we.out.bel⟩
  · have hv : nameOf 3 = ⟨#[102, 101, 110, 99, 101, 100]⟩ := by unfold nameOf; rw [if_pos (by omega)]; rfl
    rw [hv] at HNM
    clear hv hs0 hs6
    have ca : (w5.alloc (.cells #[.string ⟨#[97, 98, 115, 101, 110, 116]⟩, .string ⟨#[115, 116, 97, 103, 105, 110, 103]⟩, .string ⟨#[115, 101, 114, 118, 105, 110, 103]⟩, .string ⟨#[102, 101, 110, 99, 101, 100]⟩, .string ⟨#[116, 111, 109, 98, 101, 100]⟩, .string ⟨#[103, 111, 110, 101]⟩] 9)).cell? ⟨w.heap.size, 0, none⟩ = some (.int .i64 3) := (HV.out.p.alloc _).cell 0
    go_wp2
    have HSX : Hid (PhV w 3 e B7 B9 q1 q2 (w5.alloc (.cells #[.string ⟨#[97, 98, 115, 101, 110, 116]⟩, .string ⟨#[115, 116, 97, 103, 105, 110, 103]⟩, .string ⟨#[115, 101, 114, 118, 105, 110, 103]⟩, .string ⟨#[102, 101, 110, 99, 101, 100]⟩, .string ⟨#[116, 111, 109, 98, 101, 100]⟩, .string ⟨#[103, 111, 110, 101]⟩] 9)).drew) := Lib.hid ((HV.out.below ((Below.refl _ _).alloc (Nat.le_refl _) _))).drew
    refine wp_region_held (S := PhV w 3 e B7 B9 q1 q2) (by kernel_rfl) ?_
    change wpAnyH _ _ _ _ _ _ _ _ (w5.alloc (.cells #[.string ⟨#[97, 98, 115, 101, 110, 116]⟩, .string ⟨#[115, 116, 97, 103, 105, 110, 103]⟩, .string ⟨#[115, 101, 114, 118, 105, 110, 103]⟩, .string ⟨#[102, 101, 110, 99, 101, 100]⟩, .string ⟨#[116, 111, 109, 98, 101, 100]⟩, .string ⟨#[103, 111, 110, 101]⟩] 9)).drew
    refine wpAnyH_take (i := 0) (v := .agg (phC q1 q2)) rfl (by kernel_rfl) (by kernel_rfl) (by kernel_rfl) (fun _ _ _ h => h) (takes_row 23 (.tmp 7) rfl (by rfl) B7 (by rfl) 23 (phC q1 q2) _ (fun w' hS => hS.q) (by first | exact Tryd.underlying23 | kernel_rfl) (by rfl) ph_load) HSX.out ?_
    try simp only [Act.put, List.getElem_toArray, List.getElem_cons_zero, List.setIfInBounds_toArray, List.set_cons_zero, List.set_cons_succ]
    refine wpAnyH_take (i := 1) (v := .agg (phC q1 q2)) rfl (by kernel_rfl) (by kernel_rfl) (by kernel_rfl) (fun _ _ _ h => h) (takes_row 30 (.tmp 9) rfl (by rfl) B9 (by rfl) 30 (phC q1 q2) _ (fun w' hS => hS.r) (by first | exact Tryd.underlying30 | kernel_rfl) (by rfl) rph_load) HSX.out ?_
    try simp only [Act.put, List.getElem_toArray, List.getElem_cons_zero, List.getElem_cons_succ, List.setIfInBounds_toArray, List.set_cons_zero, List.set_cons_succ]
    refine wpAnyH_take (i := 2) (v := .bool true) rfl (by kernel_rfl) (by kernel_rfl) (by kernel_rfl) (fun _ _ _ h => h) (Or.inl ⟨by rfl, ?_⟩) HSX.out ?_
    · intro w' hS; have h0 := rph_self w' q1 q2; first | (go_simp; done) | (go_simp; with_reducible rfl)
    try simp only [Act.put, List.getElem_toArray, List.getElem_cons_zero, List.getElem_cons_succ, List.setIfInBounds_toArray, List.set_cons_zero, List.set_cons_succ]
    refine wpAnyH_take (i := 3) (v := ?_) rfl (by kernel_rfl) (by kernel_rfl) (by kernel_rfl) (fun _ _ _ h => h) (Or.inl ⟨by rfl, ?_⟩) HSX.out ?_
    rotate_left
    · intro w' hS; go_simp; with_reducible rfl
    try simp only [Act.put, List.getElem_toArray, List.getElem_cons_zero, List.getElem_cons_succ, List.setIfInBounds_toArray, List.set_cons_zero, List.set_cons_succ]
    refine wpAnyH_take (i := 4) (v := ?_) rfl (by kernel_rfl) (by kernel_rfl) (by kernel_rfl) (fun _ _ _ h => h) (Or.inl ⟨by rfl, ?_⟩) HSX.out ?_
    rotate_left
    · intro w' hS; go_simp; with_reducible rfl
    try simp only [Act.put, List.getElem_toArray, List.getElem_cons_zero, List.getElem_cons_succ, List.setIfInBounds_toArray, List.set_cons_zero, List.set_cons_succ]
    refine wpAnyH_take (i := 6) (v := ?_) rfl (by kernel_rfl) (by kernel_rfl) (by kernel_rfl) (fun _ _ _ h => h) (Or.inl ⟨by rfl, ?_⟩) HSX.out ?_
    rotate_left
    · intro w' hS; go_simp; with_reducible rfl
    try simp only [Act.put, List.getElem_toArray, List.getElem_cons_zero, List.getElem_cons_succ, List.setIfInBounds_toArray, List.set_cons_zero, List.set_cons_succ]
    refine all_one (i := 5) (by kernel_rfl) rfl (by rfl) (fun K hK => ?_)
    go_simp
    refine (HCN.out (w5.alloc (.cells #[.string ⟨#[97, 98, 115, 101, 110, 116]⟩, .string ⟨#[115, 116, 97, 103, 105, 110, 103]⟩, .string ⟨#[115, 101, 114, 118, 105, 110, 103]⟩, .string ⟨#[102, 101, 110, 99, 101, 100]⟩, .string ⟨#[116, 111, 109, 98, 101, 100]⟩, .string ⟨#[103, 111, 110, 101]⟩] 9)).drew HSX.out.bel).mono ?_
    rintro r wa ⟨rfl, hb_wa⟩
    have HX_wa := Lib.hid (HSX.out.below hb_wa)
    clear hb_wa
    dsimp only
    refine hK _ _ HX_wa.out ?_
    clear hK
    try simp only [Act.put, List.getElem_toArray, List.getElem_cons_zero, List.getElem_cons_succ, List.setIfInBounds_toArray, List.set_cons_zero, List.set_cons_succ]
    refine wpAnyH_take (i := 7) (v := .bool true) rfl (by kernel_rfl) (by kernel_rfl) (by kernel_rfl) (fun _ _ _ h => h) (Or.inl ⟨by rfl, ?_⟩) HX_wa.out ?_
    · intro w' hS; first | (go_simp; done) | (go_simp; with_reducible rfl)
    try simp only [Act.put, List.getElem_toArray, List.getElem_cons_zero, List.getElem_cons_succ, List.setIfInBounds_toArray, List.set_cons_zero, List.set_cons_succ]
    refine wpAnyH_take (i := 8) (v := ?_) rfl (by kernel_rfl) (by kernel_rfl) (by kernel_rfl) (fun _ _ _ h => h) (Or.inl ⟨by rfl, ?_⟩) HX_wa.out ?_
    rotate_left
    · intro w' hS; go_simp; with_reducible rfl
    try simp only [Act.put, List.getElem_toArray, List.getElem_cons_zero, List.getElem_cons_succ, List.setIfInBounds_toArray, List.set_cons_zero, List.set_cons_succ]
    refine wpAnyH_take (i := 9) (v := ?_) rfl (by kernel_rfl) (by kernel_rfl) (by kernel_rfl) (fun _ _ _ h => h) (Or.inl ⟨by rfl, ?_⟩) HX_wa.out ?_
    rotate_left
    · intro w' hS; go_simp; with_reducible rfl
    try simp only [Act.put, List.getElem_toArray, List.getElem_cons_zero, List.getElem_cons_succ, List.setIfInBounds_toArray, List.set_cons_zero, List.set_cons_succ]
    refine wpAnyH_take (i := 10) (v := .agg (phC 3 e)) rfl (by kernel_rfl) (by kernel_rfl) (by kernel_rfl) (fun _ _ _ h => h) (takes_row 23 (.tmp 3) rfl (by rfl) w.heap.size (by rfl) 23 (phC 3 e) _ (fun w' hS => hS.p) (by first | exact Tryd.underlying23 | kernel_rfl) (by rfl) ph_load) HX_wa.out ?_
    try simp only [Act.put, List.getElem_toArray, List.getElem_cons_zero, List.getElem_cons_succ, List.setIfInBounds_toArray, List.set_cons_zero, List.set_cons_succ]
    refine wpAnyH_take (i := 12) (v := .agg (phC 3 e)) rfl (by kernel_rfl) (by kernel_rfl) (by kernel_rfl) (fun _ _ _ h => h) (Or.inl ⟨by rfl, ?_⟩) HX_wa.out ?_
    · intro w' hS
      have h0 : w'.cell? ⟨w.heap.size, 0, none⟩ = some (.int .i64 3) := hS.p.cell 0
      have h1 : w'.cell? ⟨w.heap.size, 1, none⟩ = some (.int .i64 e) := hS.p.cell 1
      first | (go_simp; done) | (go_simp; with_reducible rfl)
    try simp only [Act.put, List.getElem_toArray, List.getElem_cons_zero, List.getElem_cons_succ, List.setIfInBounds_toArray, List.set_cons_zero, List.set_cons_succ]
    refine all_one (i := 11) (by kernel_rfl) rfl (by rfl) (fun K hK => ?_)
    go_simp
    refine (HRT.out wa).mono ?_
    rintro r wb ⟨rfl, hb_wb⟩
    have HX_wb := Lib.hid (HX_wa.out.below hb_wb)
    clear hb_wb
    dsimp only
    refine hK _ _ HX_wb.out ?_
    clear hK
    try simp only [Act.put, List.getElem_toArray, List.getElem_cons_zero, List.getElem_cons_succ, List.setIfInBounds_toArray, List.set_cons_zero, List.set_cons_succ]
    refine all_one (i := 13) (by kernel_rfl) rfl (by rfl) (fun K hK => ?_)
    go_simp
    refine (HRR.out wb).mono ?_
    rintro r wc ⟨rfl, hb_wc⟩
    have HX_wc := Lib.hid (HX_wb.out.below hb_wc)
    clear hb_wc
    dsimp only
    refine hK _ _ HX_wc.out ?_
    clear hK
    try simp only [Act.put, List.getElem_toArray, List.getElem_cons_zero, List.getElem_cons_succ, List.setIfInBounds_toArray, List.set_cons_zero, List.set_cons_succ]
    refine wpAnyH_take (i := 14) (v := .bool true) rfl (by kernel_rfl) (by kernel_rfl) (by kernel_rfl) (fun _ _ _ h => h) (Or.inl ⟨by rfl, ?_⟩) HX_wc.out ?_
    · intro w' hS; first | (go_simp; done) | (go_simp; with_reducible rfl)
    try simp only [Act.put, List.getElem_toArray, List.getElem_cons_zero, List.getElem_cons_succ, List.setIfInBounds_toArray, List.set_cons_zero, List.set_cons_succ]
    refine wpAnyH_take (i := 15) (v := ?_) rfl (by kernel_rfl) (by kernel_rfl) (by kernel_rfl) (fun _ _ _ h => h) (Or.inl ⟨by rfl, ?_⟩) HX_wc.out ?_
    rotate_left
    · intro w' hS; go_simp; with_reducible rfl
    try simp only [Act.put, List.getElem_toArray, List.getElem_cons_zero, List.getElem_cons_succ, List.setIfInBounds_toArray, List.set_cons_zero, List.set_cons_succ]
    refine wpAnyH_take (i := 16) (v := ?_) rfl (by kernel_rfl) (by kernel_rfl) (by kernel_rfl) (fun _ _ _ h => h) (Or.inl ⟨by rfl, ?_⟩) HX_wc.out ?_
    rotate_left
    · intro w' hS; go_simp; with_reducible rfl
    try simp only [Act.put, List.getElem_toArray, List.getElem_cons_zero, List.getElem_cons_succ, List.setIfInBounds_toArray, List.set_cons_zero, List.set_cons_succ]
    refine wpAnyH_take (i := 17) (v := .agg (phC 3 e)) rfl (by kernel_rfl) (by kernel_rfl) (by kernel_rfl) (fun _ _ _ h => h) (takes_row 23 (.tmp 3) rfl (by rfl) w.heap.size (by rfl) 23 (phC 3 e) _ (fun w' hS => hS.p) (by first | exact Tryd.underlying23 | kernel_rfl) (by rfl) ph_load) HX_wc.out ?_
    try simp only [Act.put, List.getElem_toArray, List.getElem_cons_zero, List.getElem_cons_succ, List.setIfInBounds_toArray, List.set_cons_zero, List.set_cons_succ]
    refine wpAnyH_take (i := 19) (v := ?_) rfl (by kernel_rfl) (by kernel_rfl) (by kernel_rfl) (fun _ _ _ h => h) (Or.inl ⟨by rfl, ?_⟩) HX_wc.out ?_
    rotate_left
    · intro w' hS; go_simp; with_reducible rfl
    try simp only [Act.put, List.getElem_toArray, List.getElem_cons_zero, List.getElem_cons_succ, List.setIfInBounds_toArray, List.set_cons_zero, List.set_cons_succ]
    refine all_one (i := 18) (by kernel_rfl) rfl (by rfl) (fun K hK => ?_)
    go_simp
    refine (HNM.out wc HX_wc.out.bel).mono ?_
    rintro r wd ⟨rfl, hb_wd⟩
    have HX_wd := Lib.hid (HX_wc.out.below hb_wd)
    clear hb_wd
    dsimp only
    refine hK _ _ HX_wd.out ?_
    clear hK
    try simp only [Act.put, List.getElem_toArray, List.getElem_cons_zero, List.getElem_cons_succ, List.setIfInBounds_toArray, List.set_cons_zero, List.set_cons_succ]
    refine wpAnyH_take (i := 20) (v := .bool true) rfl (by kernel_rfl) (by kernel_rfl) (by kernel_rfl) (fun _ _ _ h => h) (Or.inl ⟨by rfl, ?_⟩) HX_wd.out ?_
    · intro w' hS; first | (go_simp; done) | (go_simp; with_reducible rfl)
    try simp only [Act.put, List.getElem_toArray, List.getElem_cons_zero, List.getElem_cons_succ, List.setIfInBounds_toArray, List.set_cons_zero, List.set_cons_succ]
    refine wpAnyH_take (i := 21) (v := ?_) rfl (by kernel_rfl) (by kernel_rfl) (by kernel_rfl) (fun _ _ _ h => h) (Or.inl ⟨by rfl, ?_⟩) HX_wd.out ?_
    rotate_left
    · intro w' hS; go_simp; with_reducible rfl
    try simp only [Act.put, List.getElem_toArray, List.getElem_cons_zero, List.getElem_cons_succ, List.setIfInBounds_toArray, List.set_cons_zero, List.set_cons_succ]
    refine wpAnyH_take (i := 22) (v := ?_) rfl (by kernel_rfl) (by kernel_rfl) (by kernel_rfl) (fun _ _ _ h => h) (Or.inl ⟨by rfl, ?_⟩) HX_wd.out ?_
    rotate_left
    · intro w' hS; go_simp; with_reducible rfl
    try simp only [Act.put, List.getElem_toArray, List.getElem_cons_zero, List.getElem_cons_succ, List.setIfInBounds_toArray, List.set_cons_zero, List.set_cons_succ]
    refine wpAnyH_take (i := 23) (v := .agg (phC 3 e)) rfl (by kernel_rfl) (by kernel_rfl) (by kernel_rfl) (fun _ _ _ h => h) (takes_row 23 (.tmp 3) rfl (by rfl) w.heap.size (by rfl) 23 (phC 3 e) _ (fun w' hS => hS.p) (by first | exact Tryd.underlying23 | kernel_rfl) (by rfl) ph_load) HX_wd.out ?_
    try simp only [Act.put, List.getElem_toArray, List.getElem_cons_zero, List.getElem_cons_succ, List.setIfInBounds_toArray, List.set_cons_zero, List.set_cons_succ]
    refine wpAnyH_take (i := 25) (v := ?_) rfl (by kernel_rfl) (by kernel_rfl) (by kernel_rfl) (fun _ _ _ h => h) (Or.inl ⟨by rfl, ?_⟩) HX_wd.out ?_
    rotate_left
    · intro w' hS; go_simp; with_reducible rfl
    try simp only [Act.put, List.getElem_toArray, List.getElem_cons_zero, List.getElem_cons_succ, List.setIfInBounds_toArray, List.set_cons_zero, List.set_cons_succ]
    refine wpAnyH_take (i := 26) (v := ?_) rfl (by kernel_rfl) (by kernel_rfl) (by kernel_rfl) (fun _ _ _ h => h) (Or.inl ⟨by rfl, ?_⟩) HX_wd.out ?_
    rotate_left
    · intro w' hS; have h0 : w'.cell? ⟨w.heap.size, 0, none⟩ = some (.int .i64 3) := hS.p.cell 0; go_simp; with_reducible rfl
    try simp only [Act.put, List.getElem_toArray, List.getElem_cons_zero, List.getElem_cons_succ, List.setIfInBounds_toArray, List.set_cons_zero, List.set_cons_succ]
    refine wpAnyH_take (i := 27) (v := ?_) rfl (by kernel_rfl) (by kernel_rfl) (by kernel_rfl) (fun _ _ _ h => h) (Or.inl ⟨by rfl, ?_⟩) HX_wd.out ?_
    rotate_left
    · intro w' hS; go_simp; with_reducible rfl
    try simp only [Act.put, List.getElem_toArray, List.getElem_cons_zero, List.getElem_cons_succ, List.setIfInBounds_toArray, List.set_cons_zero, List.set_cons_succ]
    refine all_one (i := 24) (by kernel_rfl) rfl (by rfl) (fun K hK => ?_)
    go_simp
    refine (HWR.out wd).mono ?_
    rintro r we ⟨rfl, hb_we⟩
    have HX_we := Lib.hid (HX_wd.out.below hb_we)
    clear hb_we
    dsimp only
    refine hK _ _ HX_we.out ?_
    clear hK
    try simp only [Act.put, List.getElem_toArray, List.getElem_cons_zero, List.getElem_cons_succ, List.setIfInBounds_toArray, List.set_cons_zero, List.set_cons_succ]
    refine wpAnyH_take (i := 28) (v := .bool true) rfl (by kernel_rfl) (by kernel_rfl) (by kernel_rfl) (fun _ _ _ h => h) (Or.inl ⟨by rfl, ?_⟩) HX_we.out ?_
    · intro w' hS; first | (go_simp; done) | (go_simp; with_reducible rfl)
    try simp only [Act.put, List.getElem_toArray, List.getElem_cons_zero, List.getElem_cons_succ, List.setIfInBounds_toArray, List.set_cons_zero, List.set_cons_succ]
    refine wpAnyH_take (i := 29) (v := ?_) rfl (by kernel_rfl) (by kernel_rfl) (by kernel_rfl) (fun _ _ _ h => h) (Or.inl ⟨by rfl, ?_⟩) HX_we.out ?_
    rotate_left
    · intro w' hS; go_simp; with_reducible rfl
    try simp only [Act.put, List.getElem_toArray, List.getElem_cons_zero, List.getElem_cons_succ, List.setIfInBounds_toArray, List.set_cons_zero, List.set_cons_succ]
    refine wpAnyH_take (i := 30) (v := ?_) rfl (by kernel_rfl) (by kernel_rfl) (by kernel_rfl) (fun _ _ _ h => h) (Or.inl ⟨by rfl, ?_⟩) HX_we.out ?_
    rotate_left
    · intro w' hS; go_simp; with_reducible rfl
    try simp only [Act.put, List.getElem_toArray, List.getElem_cons_zero, List.getElem_cons_succ, List.setIfInBounds_toArray, List.set_cons_zero, List.set_cons_succ]
    refine wpAnyH_done (by kernel_rfl) ?_ _
    go_wp2
    go_ret
    exact ⟨rfl, HX_we.out.bel⟩
  · have hv : nameOf 4 = ⟨#[116, 111, 109, 98, 101, 100]⟩ := by unfold nameOf; rw [if_pos (by omega)]; rfl
    rw [hv] at HNM
    clear hv hs0 hs6
    have ca : (w5.alloc (.cells #[.string ⟨#[97, 98, 115, 101, 110, 116]⟩, .string ⟨#[115, 116, 97, 103, 105, 110, 103]⟩, .string ⟨#[115, 101, 114, 118, 105, 110, 103]⟩, .string ⟨#[102, 101, 110, 99, 101, 100]⟩, .string ⟨#[116, 111, 109, 98, 101, 100]⟩, .string ⟨#[103, 111, 110, 101]⟩] 9)).cell? ⟨w.heap.size, 0, none⟩ = some (.int .i64 4) := (HV.out.p.alloc _).cell 0
    go_wp2
    have HSX : Hid (PhV w 4 e B7 B9 q1 q2 (w5.alloc (.cells #[.string ⟨#[97, 98, 115, 101, 110, 116]⟩, .string ⟨#[115, 116, 97, 103, 105, 110, 103]⟩, .string ⟨#[115, 101, 114, 118, 105, 110, 103]⟩, .string ⟨#[102, 101, 110, 99, 101, 100]⟩, .string ⟨#[116, 111, 109, 98, 101, 100]⟩, .string ⟨#[103, 111, 110, 101]⟩] 9)).drew) := Lib.hid ((HV.out.below ((Below.refl _ _).alloc (Nat.le_refl _) _))).drew
    refine wp_region_held (S := PhV w 4 e B7 B9 q1 q2) (by kernel_rfl) ?_
    change wpAnyH _ _ _ _ _ _ _ _ (w5.alloc (.cells #[.string ⟨#[97, 98, 115, 101, 110, 116]⟩, .string ⟨#[115, 116, 97, 103, 105, 110, 103]⟩, .string ⟨#[115, 101, 114, 118, 105, 110, 103]⟩, .string ⟨#[102, 101, 110, 99, 101, 100]⟩, .string ⟨#[116, 111, 109, 98, 101, 100]⟩, .string ⟨#[103, 111, 110, 101]⟩] 9)).drew
    refine wpAnyH_take (i := 0) (v := .agg (phC q1 q2)) rfl (by kernel_rfl) (by kernel_rfl) (by kernel_rfl) (fun _ _ _ h => h) (takes_row 23 (.tmp 7) rfl (by rfl) B7 (by rfl) 23 (phC q1 q2) _ (fun w' hS => hS.q) (by first | exact Tryd.underlying23 | kernel_rfl) (by rfl) ph_load) HSX.out ?_
    try simp only [Act.put, List.getElem_toArray, List.getElem_cons_zero, List.setIfInBounds_toArray, List.set_cons_zero, List.set_cons_succ]
    refine wpAnyH_take (i := 1) (v := .agg (phC q1 q2)) rfl (by kernel_rfl) (by kernel_rfl) (by kernel_rfl) (fun _ _ _ h => h) (takes_row 30 (.tmp 9) rfl (by rfl) B9 (by rfl) 30 (phC q1 q2) _ (fun w' hS => hS.r) (by first | exact Tryd.underlying30 | kernel_rfl) (by rfl) rph_load) HSX.out ?_
    try simp only [Act.put, List.getElem_toArray, List.getElem_cons_zero, List.getElem_cons_succ, List.setIfInBounds_toArray, List.set_cons_zero, List.set_cons_succ]
    refine wpAnyH_take (i := 2) (v := .bool true) rfl (by kernel_rfl) (by kernel_rfl) (by kernel_rfl) (fun _ _ _ h => h) (Or.inl ⟨by rfl, ?_⟩) HSX.out ?_
    · intro w' hS; have h0 := rph_self w' q1 q2; first | (go_simp; done) | (go_simp; with_reducible rfl)
    try simp only [Act.put, List.getElem_toArray, List.getElem_cons_zero, List.getElem_cons_succ, List.setIfInBounds_toArray, List.set_cons_zero, List.set_cons_succ]
    refine wpAnyH_take (i := 3) (v := ?_) rfl (by kernel_rfl) (by kernel_rfl) (by kernel_rfl) (fun _ _ _ h => h) (Or.inl ⟨by rfl, ?_⟩) HSX.out ?_
    rotate_left
    · intro w' hS; go_simp; with_reducible rfl
    try simp only [Act.put, List.getElem_toArray, List.getElem_cons_zero, List.getElem_cons_succ, List.setIfInBounds_toArray, List.set_cons_zero, List.set_cons_succ]
    refine wpAnyH_take (i := 4) (v := ?_) rfl (by kernel_rfl) (by kernel_rfl) (by kernel_rfl) (fun _ _ _ h => h) (Or.inl ⟨by rfl, ?_⟩) HSX.out ?_
    rotate_left
    · intro w' hS; go_simp; with_reducible rfl
    try simp only [Act.put, List.getElem_toArray, List.getElem_cons_zero, List.getElem_cons_succ, List.setIfInBounds_toArray, List.set_cons_zero, List.set_cons_succ]
    refine wpAnyH_take (i := 6) (v := ?_) rfl (by kernel_rfl) (by kernel_rfl) (by kernel_rfl) (fun _ _ _ h => h) (Or.inl ⟨by rfl, ?_⟩) HSX.out ?_
    rotate_left
    · intro w' hS; go_simp; with_reducible rfl
    try simp only [Act.put, List.getElem_toArray, List.getElem_cons_zero, List.getElem_cons_succ, List.setIfInBounds_toArray, List.set_cons_zero, List.set_cons_succ]
    refine all_one (i := 5) (by kernel_rfl) rfl (by rfl) (fun K hK => ?_)
    go_simp
    refine (HCN.out (w5.alloc (.cells #[.string ⟨#[97, 98, 115, 101, 110, 116]⟩, .string ⟨#[115, 116, 97, 103, 105, 110, 103]⟩, .string ⟨#[115, 101, 114, 118, 105, 110, 103]⟩, .string ⟨#[102, 101, 110, 99, 101, 100]⟩, .string ⟨#[116, 111, 109, 98, 101, 100]⟩, .string ⟨#[103, 111, 110, 101]⟩] 9)).drew HSX.out.bel).mono ?_
    rintro r wa ⟨rfl, hb_wa⟩
    have HX_wa := Lib.hid (HSX.out.below hb_wa)
    clear hb_wa
    dsimp only
    refine hK _ _ HX_wa.out ?_
    clear hK
    try simp only [Act.put, List.getElem_toArray, List.getElem_cons_zero, List.getElem_cons_succ, List.setIfInBounds_toArray, List.set_cons_zero, List.set_cons_succ]
    refine wpAnyH_take (i := 7) (v := .bool true) rfl (by kernel_rfl) (by kernel_rfl) (by kernel_rfl) (fun _ _ _ h => h) (Or.inl ⟨by rfl, ?_⟩) HX_wa.out ?_
    · intro w' hS; first | (go_simp; done) | (go_simp; with_reducible rfl)
    try simp only [Act.put, List.getElem_toArray, List.getElem_cons_zero, List.getElem_cons_succ, List.setIfInBounds_toArray, List.set_cons_zero, List.set_cons_succ]
    refine wpAnyH_take (i := 8) (v := ?_) rfl (by kernel_rfl) (by kernel_rfl) (by kernel_rfl) (fun _ _ _ h => h) (Or.inl ⟨by rfl, ?_⟩) HX_wa.out ?_
    rotate_left
    · intro w' hS; go_simp; with_reducible rfl
    try simp only [Act.put, List.getElem_toArray, List.getElem_cons_zero, List.getElem_cons_succ, List.setIfInBounds_toArray, List.set_cons_zero, List.set_cons_succ]
    refine wpAnyH_take (i := 9) (v := ?_) rfl (by kernel_rfl) (by kernel_rfl) (by kernel_rfl) (fun _ _ _ h => h) (Or.inl ⟨by rfl, ?_⟩) HX_wa.out ?_
    rotate_left
    · intro w' hS; go_simp; with_reducible rfl
    try simp only [Act.put, List.getElem_toArray, List.getElem_cons_zero, List.getElem_cons_succ, List.setIfInBounds_toArray, List.set_cons_zero, List.set_cons_succ]
    refine wpAnyH_take (i := 10) (v := .agg (phC 4 e)) rfl (by kernel_rfl) (by kernel_rfl) (by kernel_rfl) (fun _ _ _ h => h) (takes_row 23 (.tmp 3) rfl (by rfl) w.heap.size (by rfl) 23 (phC 4 e) _ (fun w' hS => hS.p) (by first | exact Tryd.underlying23 | kernel_rfl) (by rfl) ph_load) HX_wa.out ?_
    try simp only [Act.put, List.getElem_toArray, List.getElem_cons_zero, List.getElem_cons_succ, List.setIfInBounds_toArray, List.set_cons_zero, List.set_cons_succ]
    refine wpAnyH_take (i := 12) (v := .agg (phC 4 e)) rfl (by kernel_rfl) (by kernel_rfl) (by kernel_rfl) (fun _ _ _ h => h) (Or.inl ⟨by rfl, ?_⟩) HX_wa.out ?_
    · intro w' hS
      have h0 : w'.cell? ⟨w.heap.size, 0, none⟩ = some (.int .i64 4) := hS.p.cell 0
      have h1 : w'.cell? ⟨w.heap.size, 1, none⟩ = some (.int .i64 e) := hS.p.cell 1
      first | (go_simp; done) | (go_simp; with_reducible rfl)
    try simp only [Act.put, List.getElem_toArray, List.getElem_cons_zero, List.getElem_cons_succ, List.setIfInBounds_toArray, List.set_cons_zero, List.set_cons_succ]
    refine all_one (i := 11) (by kernel_rfl) rfl (by rfl) (fun K hK => ?_)
    go_simp
    refine (HRT.out wa).mono ?_
    rintro r wb ⟨rfl, hb_wb⟩
    have HX_wb := Lib.hid (HX_wa.out.below hb_wb)
    clear hb_wb
    dsimp only
    refine hK _ _ HX_wb.out ?_
    clear hK
    try simp only [Act.put, List.getElem_toArray, List.getElem_cons_zero, List.getElem_cons_succ, List.setIfInBounds_toArray, List.set_cons_zero, List.set_cons_succ]
    refine all_one (i := 13) (by kernel_rfl) rfl (by rfl) (fun K hK => ?_)
    go_simp
    refine (HRR.out wb).mono ?_
    rintro r wc ⟨rfl, hb_wc⟩
    have HX_wc := Lib.hid (HX_wb.out.below hb_wc)
    clear hb_wc
    dsimp only
    refine hK _ _ HX_wc.out ?_
    clear hK
    try simp only [Act.put, List.getElem_toArray, List.getElem_cons_zero, List.getElem_cons_succ, List.setIfInBounds_toArray, List.set_cons_zero, List.set_cons_succ]
    refine wpAnyH_take (i := 14) (v := .bool true) rfl (by kernel_rfl) (by kernel_rfl) (by kernel_rfl) (fun _ _ _ h => h) (Or.inl ⟨by rfl, ?_⟩) HX_wc.out ?_
    · intro w' hS; first | (go_simp; done) | (go_simp; with_reducible rfl)
    try simp only [Act.put, List.getElem_toArray, List.getElem_cons_zero, List.getElem_cons_succ, List.setIfInBounds_toArray, List.set_cons_zero, List.set_cons_succ]
    refine wpAnyH_take (i := 15) (v := ?_) rfl (by kernel_rfl) (by kernel_rfl) (by kernel_rfl) (fun _ _ _ h => h) (Or.inl ⟨by rfl, ?_⟩) HX_wc.out ?_
    rotate_left
    · intro w' hS; go_simp; with_reducible rfl
    try simp only [Act.put, List.getElem_toArray, List.getElem_cons_zero, List.getElem_cons_succ, List.setIfInBounds_toArray, List.set_cons_zero, List.set_cons_succ]
    refine wpAnyH_take (i := 16) (v := ?_) rfl (by kernel_rfl) (by kernel_rfl) (by kernel_rfl) (fun _ _ _ h => h) (Or.inl ⟨by rfl, ?_⟩) HX_wc.out ?_
    rotate_left
    · intro w' hS; go_simp; with_reducible rfl
    try simp only [Act.put, List.getElem_toArray, List.getElem_cons_zero, List.getElem_cons_succ, List.setIfInBounds_toArray, List.set_cons_zero, List.set_cons_succ]
    refine wpAnyH_take (i := 17) (v := .agg (phC 4 e)) rfl (by kernel_rfl) (by kernel_rfl) (by kernel_rfl) (fun _ _ _ h => h) (takes_row 23 (.tmp 3) rfl (by rfl) w.heap.size (by rfl) 23 (phC 4 e) _ (fun w' hS => hS.p) (by first | exact Tryd.underlying23 | kernel_rfl) (by rfl) ph_load) HX_wc.out ?_
    try simp only [Act.put, List.getElem_toArray, List.getElem_cons_zero, List.getElem_cons_succ, List.setIfInBounds_toArray, List.set_cons_zero, List.set_cons_succ]
    refine wpAnyH_take (i := 19) (v := ?_) rfl (by kernel_rfl) (by kernel_rfl) (by kernel_rfl) (fun _ _ _ h => h) (Or.inl ⟨by rfl, ?_⟩) HX_wc.out ?_
    rotate_left
    · intro w' hS; go_simp; with_reducible rfl
    try simp only [Act.put, List.getElem_toArray, List.getElem_cons_zero, List.getElem_cons_succ, List.setIfInBounds_toArray, List.set_cons_zero, List.set_cons_succ]
    refine all_one (i := 18) (by kernel_rfl) rfl (by rfl) (fun K hK => ?_)
    go_simp
    refine (HNM.out wc HX_wc.out.bel).mono ?_
    rintro r wd ⟨rfl, hb_wd⟩
    have HX_wd := Lib.hid (HX_wc.out.below hb_wd)
    clear hb_wd
    dsimp only
    refine hK _ _ HX_wd.out ?_
    clear hK
    try simp only [Act.put, List.getElem_toArray, List.getElem_cons_zero, List.getElem_cons_succ, List.setIfInBounds_toArray, List.set_cons_zero, List.set_cons_succ]
    refine wpAnyH_take (i := 20) (v := .bool true) rfl (by kernel_rfl) (by kernel_rfl) (by kernel_rfl) (fun _ _ _ h => h) (Or.inl ⟨by rfl, ?_⟩) HX_wd.out ?_
    · intro w' hS; first | (go_simp; done) | (go_simp; with_reducible rfl)
    try simp only [Act.put, List.getElem_toArray, List.getElem_cons_zero, List.getElem_cons_succ, List.setIfInBounds_toArray, List.set_cons_zero, List.set_cons_succ]
    refine wpAnyH_take (i := 21) (v := ?_) rfl (by kernel_rfl) (by kernel_rfl) (by kernel_rfl) (fun _ _ _ h => h) (Or.inl ⟨by rfl, ?_⟩) HX_wd.out ?_
    rotate_left
    · intro w' hS; go_simp; with_reducible rfl
    try simp only [Act.put, List.getElem_toArray, List.getElem_cons_zero, List.getElem_cons_succ, List.setIfInBounds_toArray, List.set_cons_zero, List.set_cons_succ]
    refine wpAnyH_take (i := 22) (v := ?_) rfl (by kernel_rfl) (by kernel_rfl) (by kernel_rfl) (fun _ _ _ h => h) (Or.inl ⟨by rfl, ?_⟩) HX_wd.out ?_
    rotate_left
    · intro w' hS; go_simp; with_reducible rfl
    try simp only [Act.put, List.getElem_toArray, List.getElem_cons_zero, List.getElem_cons_succ, List.setIfInBounds_toArray, List.set_cons_zero, List.set_cons_succ]
    refine wpAnyH_take (i := 23) (v := .agg (phC 4 e)) rfl (by kernel_rfl) (by kernel_rfl) (by kernel_rfl) (fun _ _ _ h => h) (takes_row 23 (.tmp 3) rfl (by rfl) w.heap.size (by rfl) 23 (phC 4 e) _ (fun w' hS => hS.p) (by first | exact Tryd.underlying23 | kernel_rfl) (by rfl) ph_load) HX_wd.out ?_
    try simp only [Act.put, List.getElem_toArray, List.getElem_cons_zero, List.getElem_cons_succ, List.setIfInBounds_toArray, List.set_cons_zero, List.set_cons_succ]
    refine wpAnyH_take (i := 25) (v := ?_) rfl (by kernel_rfl) (by kernel_rfl) (by kernel_rfl) (fun _ _ _ h => h) (Or.inl ⟨by rfl, ?_⟩) HX_wd.out ?_
    rotate_left
    · intro w' hS; go_simp; with_reducible rfl
    try simp only [Act.put, List.getElem_toArray, List.getElem_cons_zero, List.getElem_cons_succ, List.setIfInBounds_toArray, List.set_cons_zero, List.set_cons_succ]
    refine wpAnyH_take (i := 26) (v := ?_) rfl (by kernel_rfl) (by kernel_rfl) (by kernel_rfl) (fun _ _ _ h => h) (Or.inl ⟨by rfl, ?_⟩) HX_wd.out ?_
    rotate_left
    · intro w' hS; have h0 : w'.cell? ⟨w.heap.size, 0, none⟩ = some (.int .i64 4) := hS.p.cell 0; go_simp; with_reducible rfl
    try simp only [Act.put, List.getElem_toArray, List.getElem_cons_zero, List.getElem_cons_succ, List.setIfInBounds_toArray, List.set_cons_zero, List.set_cons_succ]
    refine wpAnyH_take (i := 27) (v := ?_) rfl (by kernel_rfl) (by kernel_rfl) (by kernel_rfl) (fun _ _ _ h => h) (Or.inl ⟨by rfl, ?_⟩) HX_wd.out ?_
    rotate_left
    · intro w' hS; go_simp; with_reducible rfl
    try simp only [Act.put, List.getElem_toArray, List.getElem_cons_zero, List.getElem_cons_succ, List.setIfInBounds_toArray, List.set_cons_zero, List.set_cons_succ]
    refine all_one (i := 24) (by kernel_rfl) rfl (by rfl) (fun K hK => ?_)
    go_simp
    refine (HWR.out wd).mono ?_
    rintro r we ⟨rfl, hb_we⟩
    have HX_we := Lib.hid (HX_wd.out.below hb_we)
    clear hb_we
    dsimp only
    refine hK _ _ HX_we.out ?_
    clear hK
    try simp only [Act.put, List.getElem_toArray, List.getElem_cons_zero, List.getElem_cons_succ, List.setIfInBounds_toArray, List.set_cons_zero, List.set_cons_succ]
    refine wpAnyH_take (i := 28) (v := .bool true) rfl (by kernel_rfl) (by kernel_rfl) (by kernel_rfl) (fun _ _ _ h => h) (Or.inl ⟨by rfl, ?_⟩) HX_we.out ?_
    · intro w' hS; first | (go_simp; done) | (go_simp; with_reducible rfl)
    try simp only [Act.put, List.getElem_toArray, List.getElem_cons_zero, List.getElem_cons_succ, List.setIfInBounds_toArray, List.set_cons_zero, List.set_cons_succ]
    refine wpAnyH_take (i := 29) (v := ?_) rfl (by kernel_rfl) (by kernel_rfl) (by kernel_rfl) (fun _ _ _ h => h) (Or.inl ⟨by rfl, ?_⟩) HX_we.out ?_
    rotate_left
    · intro w' hS; go_simp; with_reducible rfl
    try simp only [Act.put, List.getElem_toArray, List.getElem_cons_zero, List.getElem_cons_succ, List.setIfInBounds_toArray, List.set_cons_zero, List.set_cons_succ]
    refine wpAnyH_take (i := 30) (v := ?_) rfl (by kernel_rfl) (by kernel_rfl) (by kernel_rfl) (fun _ _ _ h => h) (Or.inl ⟨by rfl, ?_⟩) HX_we.out ?_
    rotate_left
    · intro w' hS; go_simp; with_reducible rfl
    try simp only [Act.put, List.getElem_toArray, List.getElem_cons_zero, List.getElem_cons_succ, List.setIfInBounds_toArray, List.set_cons_zero, List.set_cons_succ]
    refine wpAnyH_done (by kernel_rfl) ?_ _
    go_wp2
    go_ret
    exact ⟨rfl, HX_we.out.bel⟩
  · have hv : nameOf 5 = ⟨#[103, 111, 110, 101]⟩ := by unfold nameOf; rw [if_pos (by omega)]; rfl
    rw [hv] at HNM
    clear hv hs0 hs6
    have ca : (w5.alloc (.cells #[.string ⟨#[97, 98, 115, 101, 110, 116]⟩, .string ⟨#[115, 116, 97, 103, 105, 110, 103]⟩, .string ⟨#[115, 101, 114, 118, 105, 110, 103]⟩, .string ⟨#[102, 101, 110, 99, 101, 100]⟩, .string ⟨#[116, 111, 109, 98, 101, 100]⟩, .string ⟨#[103, 111, 110, 101]⟩] 9)).cell? ⟨w.heap.size, 0, none⟩ = some (.int .i64 5) := (HV.out.p.alloc _).cell 0
    go_wp2
    have HSX : Hid (PhV w 5 e B7 B9 q1 q2 (w5.alloc (.cells #[.string ⟨#[97, 98, 115, 101, 110, 116]⟩, .string ⟨#[115, 116, 97, 103, 105, 110, 103]⟩, .string ⟨#[115, 101, 114, 118, 105, 110, 103]⟩, .string ⟨#[102, 101, 110, 99, 101, 100]⟩, .string ⟨#[116, 111, 109, 98, 101, 100]⟩, .string ⟨#[103, 111, 110, 101]⟩] 9)).drew) := Lib.hid ((HV.out.below ((Below.refl _ _).alloc (Nat.le_refl _) _))).drew
    refine wp_region_held (S := PhV w 5 e B7 B9 q1 q2) (by kernel_rfl) ?_
    change wpAnyH _ _ _ _ _ _ _ _ (w5.alloc (.cells #[.string ⟨#[97, 98, 115, 101, 110, 116]⟩, .string ⟨#[115, 116, 97, 103, 105, 110, 103]⟩, .string ⟨#[115, 101, 114, 118, 105, 110, 103]⟩, .string ⟨#[102, 101, 110, 99, 101, 100]⟩, .string ⟨#[116, 111, 109, 98, 101, 100]⟩, .string ⟨#[103, 111, 110, 101]⟩] 9)).drew
    refine wpAnyH_take (i := 0) (v := .agg (phC q1 q2)) rfl (by kernel_rfl) (by kernel_rfl) (by kernel_rfl) (fun _ _ _ h => h) (takes_row 23 (.tmp 7) rfl (by rfl) B7 (by rfl) 23 (phC q1 q2) _ (fun w' hS => hS.q) (by first | exact Tryd.underlying23 | kernel_rfl) (by rfl) ph_load) HSX.out ?_
    try simp only [Act.put, List.getElem_toArray, List.getElem_cons_zero, List.setIfInBounds_toArray, List.set_cons_zero, List.set_cons_succ]
    refine wpAnyH_take (i := 1) (v := .agg (phC q1 q2)) rfl (by kernel_rfl) (by kernel_rfl) (by kernel_rfl) (fun _ _ _ h => h) (takes_row 30 (.tmp 9) rfl (by rfl) B9 (by rfl) 30 (phC q1 q2) _ (fun w' hS => hS.r) (by first | exact Tryd.underlying30 | kernel_rfl) (by rfl) rph_load) HSX.out ?_
    try simp only [Act.put, List.getElem_toArray, List.getElem_cons_zero, List.getElem_cons_succ, List.setIfInBounds_toArray, List.set_cons_zero, List.set_cons_succ]
    refine wpAnyH_take (i := 2) (v := .bool true) rfl (by kernel_rfl) (by kernel_rfl) (by kernel_rfl) (fun _ _ _ h => h) (Or.inl ⟨by rfl, ?_⟩) HSX.out ?_
    · intro w' hS; have h0 := rph_self w' q1 q2; first | (go_simp; done) | (go_simp; with_reducible rfl)
    try simp only [Act.put, List.getElem_toArray, List.getElem_cons_zero, List.getElem_cons_succ, List.setIfInBounds_toArray, List.set_cons_zero, List.set_cons_succ]
    refine wpAnyH_take (i := 3) (v := ?_) rfl (by kernel_rfl) (by kernel_rfl) (by kernel_rfl) (fun _ _ _ h => h) (Or.inl ⟨by rfl, ?_⟩) HSX.out ?_
    rotate_left
    · intro w' hS; go_simp; with_reducible rfl
    try simp only [Act.put, List.getElem_toArray, List.getElem_cons_zero, List.getElem_cons_succ, List.setIfInBounds_toArray, List.set_cons_zero, List.set_cons_succ]
    refine wpAnyH_take (i := 4) (v := ?_) rfl (by kernel_rfl) (by kernel_rfl) (by kernel_rfl) (fun _ _ _ h => h) (Or.inl ⟨by rfl, ?_⟩) HSX.out ?_
    rotate_left
    · intro w' hS; go_simp; with_reducible rfl
    try simp only [Act.put, List.getElem_toArray, List.getElem_cons_zero, List.getElem_cons_succ, List.setIfInBounds_toArray, List.set_cons_zero, List.set_cons_succ]
    refine wpAnyH_take (i := 6) (v := ?_) rfl (by kernel_rfl) (by kernel_rfl) (by kernel_rfl) (fun _ _ _ h => h) (Or.inl ⟨by rfl, ?_⟩) HSX.out ?_
    rotate_left
    · intro w' hS; go_simp; with_reducible rfl
    try simp only [Act.put, List.getElem_toArray, List.getElem_cons_zero, List.getElem_cons_succ, List.setIfInBounds_toArray, List.set_cons_zero, List.set_cons_succ]
    refine all_one (i := 5) (by kernel_rfl) rfl (by rfl) (fun K hK => ?_)
    go_simp
    refine (HCN.out (w5.alloc (.cells #[.string ⟨#[97, 98, 115, 101, 110, 116]⟩, .string ⟨#[115, 116, 97, 103, 105, 110, 103]⟩, .string ⟨#[115, 101, 114, 118, 105, 110, 103]⟩, .string ⟨#[102, 101, 110, 99, 101, 100]⟩, .string ⟨#[116, 111, 109, 98, 101, 100]⟩, .string ⟨#[103, 111, 110, 101]⟩] 9)).drew HSX.out.bel).mono ?_
    rintro r wa ⟨rfl, hb_wa⟩
    have HX_wa := Lib.hid (HSX.out.below hb_wa)
    clear hb_wa
    dsimp only
    refine hK _ _ HX_wa.out ?_
    clear hK
    try simp only [Act.put, List.getElem_toArray, List.getElem_cons_zero, List.getElem_cons_succ, List.setIfInBounds_toArray, List.set_cons_zero, List.set_cons_succ]
    refine wpAnyH_take (i := 7) (v := .bool true) rfl (by kernel_rfl) (by kernel_rfl) (by kernel_rfl) (fun _ _ _ h => h) (Or.inl ⟨by rfl, ?_⟩) HX_wa.out ?_
    · intro w' hS; first | (go_simp; done) | (go_simp; with_reducible rfl)
    try simp only [Act.put, List.getElem_toArray, List.getElem_cons_zero, List.getElem_cons_succ, List.setIfInBounds_toArray, List.set_cons_zero, List.set_cons_succ]
    refine wpAnyH_take (i := 8) (v := ?_) rfl (by kernel_rfl) (by kernel_rfl) (by kernel_rfl) (fun _ _ _ h => h) (Or.inl ⟨by rfl, ?_⟩) HX_wa.out ?_
    rotate_left
    · intro w' hS; go_simp; with_reducible rfl
    try simp only [Act.put, List.getElem_toArray, List.getElem_cons_zero, List.getElem_cons_succ, List.setIfInBounds_toArray, List.set_cons_zero, List.set_cons_succ]
    refine wpAnyH_take (i := 9) (v := ?_) rfl (by kernel_rfl) (by kernel_rfl) (by kernel_rfl) (fun _ _ _ h => h) (Or.inl ⟨by rfl, ?_⟩) HX_wa.out ?_
    rotate_left
    · intro w' hS; go_simp; with_reducible rfl
    try simp only [Act.put, List.getElem_toArray, List.getElem_cons_zero, List.getElem_cons_succ, List.setIfInBounds_toArray, List.set_cons_zero, List.set_cons_succ]
    refine wpAnyH_take (i := 10) (v := .agg (phC 5 e)) rfl (by kernel_rfl) (by kernel_rfl) (by kernel_rfl) (fun _ _ _ h => h) (takes_row 23 (.tmp 3) rfl (by rfl) w.heap.size (by rfl) 23 (phC 5 e) _ (fun w' hS => hS.p) (by first | exact Tryd.underlying23 | kernel_rfl) (by rfl) ph_load) HX_wa.out ?_
    try simp only [Act.put, List.getElem_toArray, List.getElem_cons_zero, List.getElem_cons_succ, List.setIfInBounds_toArray, List.set_cons_zero, List.set_cons_succ]
    refine wpAnyH_take (i := 12) (v := .agg (phC 5 e)) rfl (by kernel_rfl) (by kernel_rfl) (by kernel_rfl) (fun _ _ _ h => h) (Or.inl ⟨by rfl, ?_⟩) HX_wa.out ?_
    · intro w' hS
      have h0 : w'.cell? ⟨w.heap.size, 0, none⟩ = some (.int .i64 5) := hS.p.cell 0
      have h1 : w'.cell? ⟨w.heap.size, 1, none⟩ = some (.int .i64 e) := hS.p.cell 1
      first | (go_simp; done) | (go_simp; with_reducible rfl)
    try simp only [Act.put, List.getElem_toArray, List.getElem_cons_zero, List.getElem_cons_succ, List.setIfInBounds_toArray, List.set_cons_zero, List.set_cons_succ]
    refine all_one (i := 11) (by kernel_rfl) rfl (by rfl) (fun K hK => ?_)
    go_simp
    refine (HRT.out wa).mono ?_
    rintro r wb ⟨rfl, hb_wb⟩
    have HX_wb := Lib.hid (HX_wa.out.below hb_wb)
    clear hb_wb
    dsimp only
    refine hK _ _ HX_wb.out ?_
    clear hK
    try simp only [Act.put, List.getElem_toArray, List.getElem_cons_zero, List.getElem_cons_succ, List.setIfInBounds_toArray, List.set_cons_zero, List.set_cons_succ]
    refine all_one (i := 13) (by kernel_rfl) rfl (by rfl) (fun K hK => ?_)
    go_simp
    refine (HRR.out wb).mono ?_
    rintro r wc ⟨rfl, hb_wc⟩
    have HX_wc := Lib.hid (HX_wb.out.below hb_wc)
    clear hb_wc
    dsimp only
    refine hK _ _ HX_wc.out ?_
    clear hK
    try simp only [Act.put, List.getElem_toArray, List.getElem_cons_zero, List.getElem_cons_succ, List.setIfInBounds_toArray, List.set_cons_zero, List.set_cons_succ]
    refine wpAnyH_take (i := 14) (v := .bool true) rfl (by kernel_rfl) (by kernel_rfl) (by kernel_rfl) (fun _ _ _ h => h) (Or.inl ⟨by rfl, ?_⟩) HX_wc.out ?_
    · intro w' hS; first | (go_simp; done) | (go_simp; with_reducible rfl)
    try simp only [Act.put, List.getElem_toArray, List.getElem_cons_zero, List.getElem_cons_succ, List.setIfInBounds_toArray, List.set_cons_zero, List.set_cons_succ]
    refine wpAnyH_take (i := 15) (v := ?_) rfl (by kernel_rfl) (by kernel_rfl) (by kernel_rfl) (fun _ _ _ h => h) (Or.inl ⟨by rfl, ?_⟩) HX_wc.out ?_
    rotate_left
    · intro w' hS; go_simp; with_reducible rfl
    try simp only [Act.put, List.getElem_toArray, List.getElem_cons_zero, List.getElem_cons_succ, List.setIfInBounds_toArray, List.set_cons_zero, List.set_cons_succ]
    refine wpAnyH_take (i := 16) (v := ?_) rfl (by kernel_rfl) (by kernel_rfl) (by kernel_rfl) (fun _ _ _ h => h) (Or.inl ⟨by rfl, ?_⟩) HX_wc.out ?_
    rotate_left
    · intro w' hS; go_simp; with_reducible rfl
    try simp only [Act.put, List.getElem_toArray, List.getElem_cons_zero, List.getElem_cons_succ, List.setIfInBounds_toArray, List.set_cons_zero, List.set_cons_succ]
    refine wpAnyH_take (i := 17) (v := .agg (phC 5 e)) rfl (by kernel_rfl) (by kernel_rfl) (by kernel_rfl) (fun _ _ _ h => h) (takes_row 23 (.tmp 3) rfl (by rfl) w.heap.size (by rfl) 23 (phC 5 e) _ (fun w' hS => hS.p) (by first | exact Tryd.underlying23 | kernel_rfl) (by rfl) ph_load) HX_wc.out ?_
    try simp only [Act.put, List.getElem_toArray, List.getElem_cons_zero, List.getElem_cons_succ, List.setIfInBounds_toArray, List.set_cons_zero, List.set_cons_succ]
    refine wpAnyH_take (i := 19) (v := ?_) rfl (by kernel_rfl) (by kernel_rfl) (by kernel_rfl) (fun _ _ _ h => h) (Or.inl ⟨by rfl, ?_⟩) HX_wc.out ?_
    rotate_left
    · intro w' hS; go_simp; with_reducible rfl
    try simp only [Act.put, List.getElem_toArray, List.getElem_cons_zero, List.getElem_cons_succ, List.setIfInBounds_toArray, List.set_cons_zero, List.set_cons_succ]
    refine all_one (i := 18) (by kernel_rfl) rfl (by rfl) (fun K hK => ?_)
    go_simp
    refine (HNM.out wc HX_wc.out.bel).mono ?_
    rintro r wd ⟨rfl, hb_wd⟩
    have HX_wd := Lib.hid (HX_wc.out.below hb_wd)
    clear hb_wd
    dsimp only
    refine hK _ _ HX_wd.out ?_
    clear hK
    try simp only [Act.put, List.getElem_toArray, List.getElem_cons_zero, List.getElem_cons_succ, List.setIfInBounds_toArray, List.set_cons_zero, List.set_cons_succ]
    refine wpAnyH_take (i := 20) (v := .bool true) rfl (by kernel_rfl) (by kernel_rfl) (by kernel_rfl) (fun _ _ _ h => h) (Or.inl ⟨by rfl, ?_⟩) HX_wd.out ?_
    · intro w' hS; first | (go_simp; done) | (go_simp; with_reducible rfl)
    try simp only [Act.put, List.getElem_toArray, List.getElem_cons_zero, List.getElem_cons_succ, List.setIfInBounds_toArray, List.set_cons_zero, List.set_cons_succ]
    refine wpAnyH_take (i := 21) (v := ?_) rfl (by kernel_rfl) (by kernel_rfl) (by kernel_rfl) (fun _ _ _ h => h) (Or.inl ⟨by rfl, ?_⟩) HX_wd.out ?_
    rotate_left
    · intro w' hS; go_simp; with_reducible rfl
    try simp only [Act.put, List.getElem_toArray, List.getElem_cons_zero, List.getElem_cons_succ, List.setIfInBounds_toArray, List.set_cons_zero, List.set_cons_succ]
    refine wpAnyH_take (i := 22) (v := ?_) rfl (by kernel_rfl) (by kernel_rfl) (by kernel_rfl) (fun _ _ _ h => h) (Or.inl ⟨by rfl, ?_⟩) HX_wd.out ?_
    rotate_left
    · intro w' hS; go_simp; with_reducible rfl
    try simp only [Act.put, List.getElem_toArray, List.getElem_cons_zero, List.getElem_cons_succ, List.setIfInBounds_toArray, List.set_cons_zero, List.set_cons_succ]
    refine wpAnyH_take (i := 23) (v := .agg (phC 5 e)) rfl (by kernel_rfl) (by kernel_rfl) (by kernel_rfl) (fun _ _ _ h => h) (takes_row 23 (.tmp 3) rfl (by rfl) w.heap.size (by rfl) 23 (phC 5 e) _ (fun w' hS => hS.p) (by first | exact Tryd.underlying23 | kernel_rfl) (by rfl) ph_load) HX_wd.out ?_
    try simp only [Act.put, List.getElem_toArray, List.getElem_cons_zero, List.getElem_cons_succ, List.setIfInBounds_toArray, List.set_cons_zero, List.set_cons_succ]
    refine wpAnyH_take (i := 25) (v := ?_) rfl (by kernel_rfl) (by kernel_rfl) (by kernel_rfl) (fun _ _ _ h => h) (Or.inl ⟨by rfl, ?_⟩) HX_wd.out ?_
    rotate_left
    · intro w' hS; go_simp; with_reducible rfl
    try simp only [Act.put, List.getElem_toArray, List.getElem_cons_zero, List.getElem_cons_succ, List.setIfInBounds_toArray, List.set_cons_zero, List.set_cons_succ]
    refine wpAnyH_take (i := 26) (v := ?_) rfl (by kernel_rfl) (by kernel_rfl) (by kernel_rfl) (fun _ _ _ h => h) (Or.inl ⟨by rfl, ?_⟩) HX_wd.out ?_
    rotate_left
    · intro w' hS; have h0 : w'.cell? ⟨w.heap.size, 0, none⟩ = some (.int .i64 5) := hS.p.cell 0; go_simp; with_reducible rfl
    try simp only [Act.put, List.getElem_toArray, List.getElem_cons_zero, List.getElem_cons_succ, List.setIfInBounds_toArray, List.set_cons_zero, List.set_cons_succ]
    refine wpAnyH_take (i := 27) (v := ?_) rfl (by kernel_rfl) (by kernel_rfl) (by kernel_rfl) (fun _ _ _ h => h) (Or.inl ⟨by rfl, ?_⟩) HX_wd.out ?_
    rotate_left
    · intro w' hS; go_simp; with_reducible rfl
    try simp only [Act.put, List.getElem_toArray, List.getElem_cons_zero, List.getElem_cons_succ, List.setIfInBounds_toArray, List.set_cons_zero, List.set_cons_succ]
    refine all_one (i := 24) (by kernel_rfl) rfl (by rfl) (fun K hK => ?_)
    go_simp
    refine (HWR.out wd).mono ?_
    rintro r we ⟨rfl, hb_we⟩
    have HX_we := Lib.hid (HX_wd.out.below hb_we)
    clear hb_we
    dsimp only
    refine hK _ _ HX_we.out ?_
    clear hK
    try simp only [Act.put, List.getElem_toArray, List.getElem_cons_zero, List.getElem_cons_succ, List.setIfInBounds_toArray, List.set_cons_zero, List.set_cons_succ]
    refine wpAnyH_take (i := 28) (v := .bool true) rfl (by kernel_rfl) (by kernel_rfl) (by kernel_rfl) (fun _ _ _ h => h) (Or.inl ⟨by rfl, ?_⟩) HX_we.out ?_
    · intro w' hS; first | (go_simp; done) | (go_simp; with_reducible rfl)
    try simp only [Act.put, List.getElem_toArray, List.getElem_cons_zero, List.getElem_cons_succ, List.setIfInBounds_toArray, List.set_cons_zero, List.set_cons_succ]
    refine wpAnyH_take (i := 29) (v := ?_) rfl (by kernel_rfl) (by kernel_rfl) (by kernel_rfl) (fun _ _ _ h => h) (Or.inl ⟨by rfl, ?_⟩) HX_we.out ?_
    rotate_left
    · intro w' hS; go_simp; with_reducible rfl
    try simp only [Act.put, List.getElem_toArray, List.getElem_cons_zero, List.getElem_cons_succ, List.setIfInBounds_toArray, List.set_cons_zero, List.set_cons_succ]
    refine wpAnyH_take (i := 30) (v := ?_) rfl (by kernel_rfl) (by kernel_rfl) (by kernel_rfl) (fun _ _ _ h => h) (Or.inl ⟨by rfl, ?_⟩) HX_we.out ?_
    rotate_left
    · intro w' hS; go_simp; with_reducible rfl
    try simp only [Act.put, List.getElem_toArray, List.getElem_cons_zero, List.getElem_cons_succ, List.setIfInBounds_toArray, List.set_cons_zero, List.set_cons_succ]
    refine wpAnyH_done (by kernel_rfl) ?_ _
    go_wp2
    go_ret
    exact ⟨rfl, HX_we.out.bel⟩
set_option maxRecDepth 100000 in
set_option maxHeartbeats 8000000 in
theorem pevents_none (s e ev x : Int) (a : Nat → Addr) (w : World) (hS : Sents w a) (hN : NamesAt w) (hs : s < 0 ∨ 5 < s) :
    Calls Tryd.prog 3 #[phV s e, .int .i64 ev, .int .i64 x] w fun e w' => e = .returned (.bool true) ∧ Below w.heap.size w w' := by
  obtain ⟨w0, hw0⟩ : ∃ w0, w0 = w.alloc (.cells (phC s e) 23) := ⟨_, rfl⟩
  have HP0 : Hid (PhL w w.heap.size s e w0) := Lib.hid ⟨hw0 ▸ Blk.new w _ _, hw0 ▸ (Below.refl _ _).alloc (Nat.le_refl _) _⟩
  have CA := phalive_any a w0 (hS.below HP0.out.2 (Nat.le_refl _))
  have HS := Lib.hid hS
  have HN := Lib.hid hN
  have HW := Lib.hid hw0
  have HSN := Lib.hid hs
  clear hs
  clear hw0 hS hN
  unfold phV
  go_enter Tryd.func3, Tryd.ntmps3
  go_wp2_with (go_at_call 7; refine pause ?_)
  unfold Paused
  rw [← HW.out]
  refine CA.mono ?_
  rintro r w1 ⟨rfl, hb1⟩
  have HP1 := Lib.hid (HP0.out.below hb1)
  clear CA hb1 HW HP0
  clear w0
  obtain ⟨k, hk, r1, r2⟩ := ph_rem ev 5 (by omega) (by omega)
  have r1 : (IntKind.u64.wrap ev).tmod 5 = (k : Int) := r1
  have c0 : w1.cell? ⟨w.heap.size, 0, none⟩ = some (.int .i64 s) := HP1.out.1.cell 0
  have c1 : w1.cell? ⟨w.heap.size, 1, none⟩ = some (.int .i64 e) := HP1.out.1.cell 1
  have CD := do_any k s e x a w1 hk (HS.out.below HP1.out.2 (Nat.le_refl _))
  have HRD : Hid (∀ W, Calls Tryd.prog 9 #[phV s e, .int .i64 (k : Nat), .int .i64 x] W fun r w' => r = .returned (rOut (Ph.run k s e x)) ∧ Below W.heap.size W w') := Lib.hid (fun W => rdo_any k s e x W hk)
  have H22 := Lib.hid (run22 k s e x)
  generalize Ph.run k s e x = q at CD HRD H22
  obtain ⟨q1, q2, q3⟩ := q
  unfold rOut phV at HRD
  unfold phOut phV at CD
  dsimp only at CD HRD H22
  have HCN : Hid (∀ W, Below w.heap.size w W → Calls Tryd.prog 10 #[erV a q3] W fun r w' => r = .returned (.int .i64 (q3 : Nat)) ∧ Below W.heap.size W w') := Lib.hid (fun W h => numE_any q3 H22.out a W (HS.out.below h (Nat.le_refl _)))
  obtain ⟨u, hu⟩ : ∃ u, u = erV a q3 := ⟨_, rfl⟩
  rw [← hu] at CD HCN
  clear hu hk
  go_wp2_with (go_at_call 8; refine pause ?_)
  unfold Paused
  refine CD.mono ?_
  rintro r w2 ⟨rfl, hb2⟩
  have HP2 := Lib.hid (HP1.out.below hb2)
  clear CD hb2 c0 c1 r1 HP1
  go_wp2_with (with_reducible (show wpList _ _ _ (Oper.mk _ (Op.store 23 _ _) _ _ _ _ :: _) _ _); refine pause ?_)
  unfold Paused
  refine wpList_store_row rfl 23 (.tmp 7) (.tmp 23) rfl w2.heap.size (phC q1 q2) (by rfl) (by rfl) 23 (phC 0 0) (Blk.new w2 _ _) ph_load rfl (ph_one _ _) ?_
  have HP3 : Hid (PhL w w.heap.size s e ((w2.alloc (.cells (phC 0 0) 23)).setRow w2.heap.size (phC q1 q2))) := Lib.hid ⟨(HP2.out.1.alloc _).farRow (by have := HP2.out.1.lt; omega) _, below_row (HP2.out.2.alloc HP2.out.2.size _) HP2.out.2.size _⟩
  have HQ3 : Hid (Blk ((w2.alloc (.cells (phC 0 0) 23)).setRow w2.heap.size (phC q1 q2)) w2.heap.size 23 (phC q1 q2)) := Lib.hid ((Blk.new w2 _ _).row _)
  change wpList _ _ _ _ _ ((w2.alloc (.cells (phC 0 0) 23)).setRow w2.heap.size (phC q1 q2))
  generalize (w2.alloc (.cells (phC 0 0) 23)).setRow w2.heap.size (phC q1 q2) = w3 at HP3 HQ3
  clear HP2
  generalize w2.heap.size = B7 at HQ3 ⊢
  have c0 : w3.cell? ⟨w.heap.size, 0, none⟩ = some (.int .i64 s) := HP3.out.1.cell 0
  have c1 : w3.cell? ⟨w.heap.size, 1, none⟩ = some (.int .i64 e) := HP3.out.1.cell 1
  have CD := HRD.out w3
  go_wp2_with (go_at_call 9; refine pause ?_)
  unfold Paused
  refine CD.mono ?_
  rintro r w4 ⟨rfl, hb4⟩
  have HP4 := Lib.hid (HP3.out.below hb4)
  have HQ4 := Lib.hid (HQ3.out.below hb4 HQ3.out.lt)
  clear CD HRD hb4 c0 c1 HP3 HQ3 r2
  go_wp2_with (with_reducible (show wpList _ _ _ (Oper.mk _ (Op.store 30 _ _) _ _ _ _ :: _) _ _); refine pause ?_)
  unfold Paused
  refine wpList_store_row rfl 30 (.tmp 9) (.tmp 30) rfl w4.heap.size (phC q1 q2) (by rfl) (by rfl) 30 (phC 0 0) (Blk.new w4 _ _) rph_load rfl (ph_one _ _) ?_
  have HV : Hid (PhV w s e B7 w4.heap.size q1 q2 ((w4.alloc (.cells (phC 0 0) 30)).setRow w4.heap.size (phC q1 q2))) := Lib.hid ⟨(HP4.out.1.alloc _).farRow (by have := HP4.out.1.lt; omega) _, (HQ4.out.alloc _).farRow (by have := HQ4.out.lt; omega) _, (Blk.new w4 _ _).row _, below_row (HP4.out.2.alloc HP4.out.2.size _) HP4.out.2.size _⟩
  change wpList _ _ _ _ _ ((w4.alloc (.cells (phC 0 0) 30)).setRow w4.heap.size (phC q1 q2))
  generalize (w4.alloc (.cells (phC 0 0) 30)).setRow w4.heap.size (phC q1 q2) = w5 at HV
  clear HP4 HQ4
  generalize w4.heap.size = B9 at HV ⊢
  have c0 : w5.cell? ⟨w.heap.size, 0, none⟩ = some (.int .i64 s) := HV.out.p.cell 0
  have HRT : Hid (∀ W, Calls Tryd.prog 11 #[.agg (phC s e)] W fun r w' => r = .returned (.bool (Ph.rt s e)) ∧ Below W.heap.size W w') := Lib.hid (fun W => right_any s e W)
  have HRR : Hid (∀ W, Calls Tryd.prog 12 #[.agg (phC s e)] W fun r w' => r = .returned (.bool (Ph.rt s e)) ∧ Below W.heap.size W w') := Lib.hid (fun W => rright_any s e W)
  have HNM : Hid (∀ W, Below w.heap.size w W → Calls Tryd.prog 13 #[.agg (phC s e)] W fun r w' => r = .returned (.string (nameOf s)) ∧ Below W.heap.size W w') := Lib.hid (fun W h => nameOf_any s e W (HN.out.below h (Nat.le_refl _)))
  have HWR : Hid (∀ W, Calls Tryd.prog 14 #[.agg (phC s e)] W fun r w' => r = .returned (.bool (s == 2)) ∧ Below W.heap.size W w') := Lib.hid (fun W => writes_any s e W)
  generalize Ph.rt s e = ρ at HRT HRR
  have hnm : nameOf s = ⟨#[]⟩ := by unfold nameOf; rw [if_neg (by have := HSN.out; omega)]
  rw [hnm] at HNM
  clear hnm
  by_cases hneg : s < 0
  · have g0 : ¬ (0 : Int) ≤ s := by omega
    go_wp2
    have HSX : Hid (PhV w s e B7 B9 q1 q2 w5.drew) := Lib.hid (HV.out).drew
    refine wp_region_held (S := PhV w s e B7 B9 q1 q2) (by kernel_rfl) ?_
    change wpAnyH _ _ _ _ _ _ _ _ w5.drew
    refine wpAnyH_take (i := 0) (v := .agg (phC q1 q2)) rfl (by kernel_rfl) (by kernel_rfl) (by kernel_rfl) (fun _ _ _ h => h) (takes_row 23 (.tmp 7) rfl (by rfl) B7 (by rfl) 23 (phC q1 q2) _ (fun w' hS => hS.q) (by first | exact Tryd.underlying23 | kernel_rfl) (by rfl) ph_load) HSX.out ?_
    try simp only [Act.put, List.getElem_toArray, List.getElem_cons_zero, List.setIfInBounds_toArray, List.set_cons_zero, List.set_cons_succ]
    refine wpAnyH_take (i := 1) (v := .agg (phC q1 q2)) rfl (by kernel_rfl) (by kernel_rfl) (by kernel_rfl) (fun _ _ _ h => h) (takes_row 30 (.tmp 9) rfl (by rfl) B9 (by rfl) 30 (phC q1 q2) _ (fun w' hS => hS.r) (by first | exact Tryd.underlying30 | kernel_rfl) (by rfl) rph_load) HSX.out ?_
    try simp only [Act.put, List.getElem_toArray, List.getElem_cons_zero, List.getElem_cons_succ, List.setIfInBounds_toArray, List.set_cons_zero, List.set_cons_succ]
    refine wpAnyH_take (i := 2) (v := .bool true) rfl (by kernel_rfl) (by kernel_rfl) (by kernel_rfl) (fun _ _ _ h => h) (Or.inl ⟨by rfl, ?_⟩) HSX.out ?_
    · intro w' hS; have h0 := rph_self w' q1 q2; first | (go_simp; done) | (go_simp; with_reducible rfl)
    try simp only [Act.put, List.getElem_toArray, List.getElem_cons_zero, List.getElem_cons_succ, List.setIfInBounds_toArray, List.set_cons_zero, List.set_cons_succ]
    refine wpAnyH_take (i := 3) (v := ?_) rfl (by kernel_rfl) (by kernel_rfl) (by kernel_rfl) (fun _ _ _ h => h) (Or.inl ⟨by rfl, ?_⟩) HSX.out ?_
    rotate_left
    · intro w' hS; go_simp; with_reducible rfl
    try simp only [Act.put, List.getElem_toArray, List.getElem_cons_zero, List.getElem_cons_succ, List.setIfInBounds_toArray, List.set_cons_zero, List.set_cons_succ]
    refine wpAnyH_take (i := 4) (v := ?_) rfl (by kernel_rfl) (by kernel_rfl) (by kernel_rfl) (fun _ _ _ h => h) (Or.inl ⟨by rfl, ?_⟩) HSX.out ?_
    rotate_left
    · intro w' hS; go_simp; with_reducible rfl
    try simp only [Act.put, List.getElem_toArray, List.getElem_cons_zero, List.getElem_cons_succ, List.setIfInBounds_toArray, List.set_cons_zero, List.set_cons_succ]
    refine wpAnyH_take (i := 6) (v := ?_) rfl (by kernel_rfl) (by kernel_rfl) (by kernel_rfl) (fun _ _ _ h => h) (Or.inl ⟨by rfl, ?_⟩) HSX.out ?_
    rotate_left
    · intro w' hS; go_simp; with_reducible rfl
    try simp only [Act.put, List.getElem_toArray, List.getElem_cons_zero, List.getElem_cons_succ, List.setIfInBounds_toArray, List.set_cons_zero, List.set_cons_succ]
    refine all_one (i := 5) (by kernel_rfl) rfl (by rfl) (fun K hK => ?_)
    go_simp
    refine (HCN.out w5.drew HSX.out.bel).mono ?_
    rintro r wa ⟨rfl, hb_wa⟩
    have HX_wa := Lib.hid (HSX.out.below hb_wa)
    clear hb_wa
    dsimp only
    refine hK _ _ HX_wa.out ?_
    clear hK
    try simp only [Act.put, List.getElem_toArray, List.getElem_cons_zero, List.getElem_cons_succ, List.setIfInBounds_toArray, List.set_cons_zero, List.set_cons_succ]
    refine wpAnyH_take (i := 7) (v := .bool true) rfl (by kernel_rfl) (by kernel_rfl) (by kernel_rfl) (fun _ _ _ h => h) (Or.inl ⟨by rfl, ?_⟩) HX_wa.out ?_
    · intro w' hS; first | (go_simp; done) | (go_simp; with_reducible rfl)
    try simp only [Act.put, List.getElem_toArray, List.getElem_cons_zero, List.getElem_cons_succ, List.setIfInBounds_toArray, List.set_cons_zero, List.set_cons_succ]
    refine wpAnyH_take (i := 8) (v := ?_) rfl (by kernel_rfl) (by kernel_rfl) (by kernel_rfl) (fun _ _ _ h => h) (Or.inl ⟨by rfl, ?_⟩) HX_wa.out ?_
    rotate_left
    · intro w' hS; go_simp; with_reducible rfl
    try simp only [Act.put, List.getElem_toArray, List.getElem_cons_zero, List.getElem_cons_succ, List.setIfInBounds_toArray, List.set_cons_zero, List.set_cons_succ]
    refine wpAnyH_take (i := 9) (v := ?_) rfl (by kernel_rfl) (by kernel_rfl) (by kernel_rfl) (fun _ _ _ h => h) (Or.inl ⟨by rfl, ?_⟩) HX_wa.out ?_
    rotate_left
    · intro w' hS; go_simp; with_reducible rfl
    try simp only [Act.put, List.getElem_toArray, List.getElem_cons_zero, List.getElem_cons_succ, List.setIfInBounds_toArray, List.set_cons_zero, List.set_cons_succ]
    refine wpAnyH_take (i := 10) (v := .agg (phC s e)) rfl (by kernel_rfl) (by kernel_rfl) (by kernel_rfl) (fun _ _ _ h => h) (takes_row 23 (.tmp 3) rfl (by rfl) w.heap.size (by rfl) 23 (phC s e) _ (fun w' hS => hS.p) (by first | exact Tryd.underlying23 | kernel_rfl) (by rfl) ph_load) HX_wa.out ?_
    try simp only [Act.put, List.getElem_toArray, List.getElem_cons_zero, List.getElem_cons_succ, List.setIfInBounds_toArray, List.set_cons_zero, List.set_cons_succ]
    refine wpAnyH_take (i := 12) (v := .agg (phC s e)) rfl (by kernel_rfl) (by kernel_rfl) (by kernel_rfl) (fun _ _ _ h => h) (Or.inl ⟨by rfl, ?_⟩) HX_wa.out ?_
    · intro w' hS
      have h0 : w'.cell? ⟨w.heap.size, 0, none⟩ = some (.int .i64 s) := hS.p.cell 0
      have h1 : w'.cell? ⟨w.heap.size, 1, none⟩ = some (.int .i64 e) := hS.p.cell 1
      first | (go_simp; done) | (go_simp; with_reducible rfl)
    try simp only [Act.put, List.getElem_toArray, List.getElem_cons_zero, List.getElem_cons_succ, List.setIfInBounds_toArray, List.set_cons_zero, List.set_cons_succ]
    refine all_one (i := 11) (by kernel_rfl) rfl (by rfl) (fun K hK => ?_)
    go_simp
    refine (HRT.out wa).mono ?_
    rintro r wb ⟨rfl, hb_wb⟩
    have HX_wb := Lib.hid (HX_wa.out.below hb_wb)
    clear hb_wb
    dsimp only
    refine hK _ _ HX_wb.out ?_
    clear hK
    try simp only [Act.put, List.getElem_toArray, List.getElem_cons_zero, List.getElem_cons_succ, List.setIfInBounds_toArray, List.set_cons_zero, List.set_cons_succ]
    refine all_one (i := 13) (by kernel_rfl) rfl (by rfl) (fun K hK => ?_)
    go_simp
    refine (HRR.out wb).mono ?_
    rintro r wc ⟨rfl, hb_wc⟩
    have HX_wc := Lib.hid (HX_wb.out.below hb_wc)
    clear hb_wc
    dsimp only
    refine hK _ _ HX_wc.out ?_
    clear hK
    try simp only [Act.put, List.getElem_toArray, List.getElem_cons_zero, List.getElem_cons_succ, List.setIfInBounds_toArray, List.set_cons_zero, List.set_cons_succ]
    refine wpAnyH_take (i := 14) (v := .bool true) rfl (by kernel_rfl) (by kernel_rfl) (by kernel_rfl) (fun _ _ _ h => h) (Or.inl ⟨by rfl, ?_⟩) HX_wc.out ?_
    · intro w' hS; first | (go_simp; done) | (go_simp; with_reducible rfl)
    try simp only [Act.put, List.getElem_toArray, List.getElem_cons_zero, List.getElem_cons_succ, List.setIfInBounds_toArray, List.set_cons_zero, List.set_cons_succ]
    refine wpAnyH_take (i := 15) (v := ?_) rfl (by kernel_rfl) (by kernel_rfl) (by kernel_rfl) (fun _ _ _ h => h) (Or.inl ⟨by rfl, ?_⟩) HX_wc.out ?_
    rotate_left
    · intro w' hS; go_simp; with_reducible rfl
    try simp only [Act.put, List.getElem_toArray, List.getElem_cons_zero, List.getElem_cons_succ, List.setIfInBounds_toArray, List.set_cons_zero, List.set_cons_succ]
    refine wpAnyH_take (i := 16) (v := ?_) rfl (by kernel_rfl) (by kernel_rfl) (by kernel_rfl) (fun _ _ _ h => h) (Or.inl ⟨by rfl, ?_⟩) HX_wc.out ?_
    rotate_left
    · intro w' hS; go_simp; with_reducible rfl
    try simp only [Act.put, List.getElem_toArray, List.getElem_cons_zero, List.getElem_cons_succ, List.setIfInBounds_toArray, List.set_cons_zero, List.set_cons_succ]
    refine wpAnyH_take (i := 17) (v := .agg (phC s e)) rfl (by kernel_rfl) (by kernel_rfl) (by kernel_rfl) (fun _ _ _ h => h) (takes_row 23 (.tmp 3) rfl (by rfl) w.heap.size (by rfl) 23 (phC s e) _ (fun w' hS => hS.p) (by first | exact Tryd.underlying23 | kernel_rfl) (by rfl) ph_load) HX_wc.out ?_
    try simp only [Act.put, List.getElem_toArray, List.getElem_cons_zero, List.getElem_cons_succ, List.setIfInBounds_toArray, List.set_cons_zero, List.set_cons_succ]
    refine wpAnyH_take (i := 19) (v := ?_) rfl (by kernel_rfl) (by kernel_rfl) (by kernel_rfl) (fun _ _ _ h => h) (Or.inl ⟨by rfl, ?_⟩) HX_wc.out ?_
    rotate_left
    · intro w' hS; go_simp; with_reducible rfl
    try simp only [Act.put, List.getElem_toArray, List.getElem_cons_zero, List.getElem_cons_succ, List.setIfInBounds_toArray, List.set_cons_zero, List.set_cons_succ]
    refine all_one (i := 18) (by kernel_rfl) rfl (by rfl) (fun K hK => ?_)
    go_simp
    refine (HNM.out wc HX_wc.out.bel).mono ?_
    rintro r wd ⟨rfl, hb_wd⟩
    have HX_wd := Lib.hid (HX_wc.out.below hb_wd)
    clear hb_wd
    dsimp only
    refine hK _ _ HX_wd.out ?_
    clear hK
    try simp only [Act.put, List.getElem_toArray, List.getElem_cons_zero, List.getElem_cons_succ, List.setIfInBounds_toArray, List.set_cons_zero, List.set_cons_succ]
    refine wpAnyH_take (i := 20) (v := .bool true) rfl (by kernel_rfl) (by kernel_rfl) (by kernel_rfl) (fun _ _ _ h => h) (Or.inl ⟨by rfl, ?_⟩) HX_wd.out ?_
    · intro w' hS; first | (go_simp; done) | (go_simp; with_reducible rfl)
    try simp only [Act.put, List.getElem_toArray, List.getElem_cons_zero, List.getElem_cons_succ, List.setIfInBounds_toArray, List.set_cons_zero, List.set_cons_succ]
    refine wpAnyH_take (i := 21) (v := ?_) rfl (by kernel_rfl) (by kernel_rfl) (by kernel_rfl) (fun _ _ _ h => h) (Or.inl ⟨by rfl, ?_⟩) HX_wd.out ?_
    rotate_left
    · intro w' hS; go_simp; with_reducible rfl
    try simp only [Act.put, List.getElem_toArray, List.getElem_cons_zero, List.getElem_cons_succ, List.setIfInBounds_toArray, List.set_cons_zero, List.set_cons_succ]
    refine wpAnyH_take (i := 22) (v := ?_) rfl (by kernel_rfl) (by kernel_rfl) (by kernel_rfl) (fun _ _ _ h => h) (Or.inl ⟨by rfl, ?_⟩) HX_wd.out ?_
    rotate_left
    · intro w' hS; go_simp; with_reducible rfl
    try simp only [Act.put, List.getElem_toArray, List.getElem_cons_zero, List.getElem_cons_succ, List.setIfInBounds_toArray, List.set_cons_zero, List.set_cons_succ]
    refine wpAnyH_take (i := 23) (v := .agg (phC s e)) rfl (by kernel_rfl) (by kernel_rfl) (by kernel_rfl) (fun _ _ _ h => h) (takes_row 23 (.tmp 3) rfl (by rfl) w.heap.size (by rfl) 23 (phC s e) _ (fun w' hS => hS.p) (by first | exact Tryd.underlying23 | kernel_rfl) (by rfl) ph_load) HX_wd.out ?_
    try simp only [Act.put, List.getElem_toArray, List.getElem_cons_zero, List.getElem_cons_succ, List.setIfInBounds_toArray, List.set_cons_zero, List.set_cons_succ]
    refine wpAnyH_take (i := 25) (v := ?_) rfl (by kernel_rfl) (by kernel_rfl) (by kernel_rfl) (fun _ _ _ h => h) (Or.inl ⟨by rfl, ?_⟩) HX_wd.out ?_
    rotate_left
    · intro w' hS; go_simp; with_reducible rfl
    try simp only [Act.put, List.getElem_toArray, List.getElem_cons_zero, List.getElem_cons_succ, List.setIfInBounds_toArray, List.set_cons_zero, List.set_cons_succ]
    refine wpAnyH_take (i := 26) (v := ?_) rfl (by kernel_rfl) (by kernel_rfl) (by kernel_rfl) (fun _ _ _ h => h) (Or.inl ⟨by rfl, ?_⟩) HX_wd.out ?_
    rotate_left
    · intro w' hS; have h0 : w'.cell? ⟨w.heap.size, 0, none⟩ = some (.int .i64 s) := hS.p.cell 0; go_simp; with_reducible rfl
    try simp only [Act.put, List.getElem_toArray, List.getElem_cons_zero, List.getElem_cons_succ, List.setIfInBounds_toArray, List.set_cons_zero, List.set_cons_succ]
    refine wpAnyH_take (i := 27) (v := ?_) rfl (by kernel_rfl) (by kernel_rfl) (by kernel_rfl) (fun _ _ _ h => h) (Or.inl ⟨by rfl, ?_⟩) HX_wd.out ?_
    rotate_left
    · intro w' hS; go_simp; with_reducible rfl
    try simp only [Act.put, List.getElem_toArray, List.getElem_cons_zero, List.getElem_cons_succ, List.setIfInBounds_toArray, List.set_cons_zero, List.set_cons_succ]
    refine all_one (i := 24) (by kernel_rfl) rfl (by rfl) (fun K hK => ?_)
    go_simp
    refine (HWR.out wd).mono ?_
    rintro r we ⟨rfl, hb_we⟩
    have HX_we := Lib.hid (HX_wd.out.below hb_we)
    clear hb_we
    dsimp only
    refine hK _ _ HX_we.out ?_
    clear hK
    try simp only [Act.put, List.getElem_toArray, List.getElem_cons_zero, List.getElem_cons_succ, List.setIfInBounds_toArray, List.set_cons_zero, List.set_cons_succ]
    refine wpAnyH_take (i := 28) (v := .bool true) rfl (by kernel_rfl) (by kernel_rfl) (by kernel_rfl) (fun _ _ _ h => h) (Or.inl ⟨by rfl, ?_⟩) HX_we.out ?_
    · intro w' hS; first | (go_simp; done) | (go_simp; with_reducible rfl)
    try simp only [Act.put, List.getElem_toArray, List.getElem_cons_zero, List.getElem_cons_succ, List.setIfInBounds_toArray, List.set_cons_zero, List.set_cons_succ]
    refine wpAnyH_take (i := 29) (v := ?_) rfl (by kernel_rfl) (by kernel_rfl) (by kernel_rfl) (fun _ _ _ h => h) (Or.inl ⟨by rfl, ?_⟩) HX_we.out ?_
    rotate_left
    · intro w' hS; go_simp; with_reducible rfl
    try simp only [Act.put, List.getElem_toArray, List.getElem_cons_zero, List.getElem_cons_succ, List.setIfInBounds_toArray, List.set_cons_zero, List.set_cons_succ]
    refine wpAnyH_take (i := 30) (v := ?_) rfl (by kernel_rfl) (by kernel_rfl) (by kernel_rfl) (fun _ _ _ h => h) (Or.inl ⟨by rfl, ?_⟩) HX_we.out ?_
    rotate_left
    · intro w' hS; go_simp; with_reducible rfl
    try simp only [Act.put, List.getElem_toArray, List.getElem_cons_zero, List.getElem_cons_succ, List.setIfInBounds_toArray, List.set_cons_zero, List.set_cons_succ]
    refine wpAnyH_done (by kernel_rfl) ?_ _
    go_wp2
    go_ret
    exact ⟨rfl, HX_we.out.bel⟩
  · have g0 : (0 : Int) ≤ s := by omega
    have g5 : ¬ s ≤ 5 := by have := HSN.out; omega
    go_wp2
    have HSX : Hid (PhV w s e B7 B9 q1 q2 w5.drew) := Lib.hid (HV.out).drew
    refine wp_region_held (S := PhV w s e B7 B9 q1 q2) (by kernel_rfl) ?_
    change wpAnyH _ _ _ _ _ _ _ _ w5.drew
    refine wpAnyH_take (i := 0) (v := .agg (phC q1 q2)) rfl (by kernel_rfl) (by kernel_rfl) (by kernel_rfl) (fun _ _ _ h => h) (takes_row 23 (.tmp 7) rfl (by rfl) B7 (by rfl) 23 (phC q1 q2) _ (fun w' hS => hS.q) (by first | exact Tryd.underlying23 | kernel_rfl) (by rfl) ph_load) HSX.out ?_
    try simp only [Act.put, List.getElem_toArray, List.getElem_cons_zero, List.setIfInBounds_toArray, List.set_cons_zero, List.set_cons_succ]
    refine wpAnyH_take (i := 1) (v := .agg (phC q1 q2)) rfl (by kernel_rfl) (by kernel_rfl) (by kernel_rfl) (fun _ _ _ h => h) (takes_row 30 (.tmp 9) rfl (by rfl) B9 (by rfl) 30 (phC q1 q2) _ (fun w' hS => hS.r) (by first | exact Tryd.underlying30 | kernel_rfl) (by rfl) rph_load) HSX.out ?_
    try simp only [Act.put, List.getElem_toArray, List.getElem_cons_zero, List.getElem_cons_succ, List.setIfInBounds_toArray, List.set_cons_zero, List.set_cons_succ]
    refine wpAnyH_take (i := 2) (v := .bool true) rfl (by kernel_rfl) (by kernel_rfl) (by kernel_rfl) (fun _ _ _ h => h) (Or.inl ⟨by rfl, ?_⟩) HSX.out ?_
    · intro w' hS; have h0 := rph_self w' q1 q2; first | (go_simp; done) | (go_simp; with_reducible rfl)
    try simp only [Act.put, List.getElem_toArray, List.getElem_cons_zero, List.getElem_cons_succ, List.setIfInBounds_toArray, List.set_cons_zero, List.set_cons_succ]
    refine wpAnyH_take (i := 3) (v := ?_) rfl (by kernel_rfl) (by kernel_rfl) (by kernel_rfl) (fun _ _ _ h => h) (Or.inl ⟨by rfl, ?_⟩) HSX.out ?_
    rotate_left
    · intro w' hS; go_simp; with_reducible rfl
    try simp only [Act.put, List.getElem_toArray, List.getElem_cons_zero, List.getElem_cons_succ, List.setIfInBounds_toArray, List.set_cons_zero, List.set_cons_succ]
    refine wpAnyH_take (i := 4) (v := ?_) rfl (by kernel_rfl) (by kernel_rfl) (by kernel_rfl) (fun _ _ _ h => h) (Or.inl ⟨by rfl, ?_⟩) HSX.out ?_
    rotate_left
    · intro w' hS; go_simp; with_reducible rfl
    try simp only [Act.put, List.getElem_toArray, List.getElem_cons_zero, List.getElem_cons_succ, List.setIfInBounds_toArray, List.set_cons_zero, List.set_cons_succ]
    refine wpAnyH_take (i := 6) (v := ?_) rfl (by kernel_rfl) (by kernel_rfl) (by kernel_rfl) (fun _ _ _ h => h) (Or.inl ⟨by rfl, ?_⟩) HSX.out ?_
    rotate_left
    · intro w' hS; go_simp; with_reducible rfl
    try simp only [Act.put, List.getElem_toArray, List.getElem_cons_zero, List.getElem_cons_succ, List.setIfInBounds_toArray, List.set_cons_zero, List.set_cons_succ]
    refine all_one (i := 5) (by kernel_rfl) rfl (by rfl) (fun K hK => ?_)
    go_simp
    refine (HCN.out w5.drew HSX.out.bel).mono ?_
    rintro r wa ⟨rfl, hb_wa⟩
    have HX_wa := Lib.hid (HSX.out.below hb_wa)
    clear hb_wa
    dsimp only
    refine hK _ _ HX_wa.out ?_
    clear hK
    try simp only [Act.put, List.getElem_toArray, List.getElem_cons_zero, List.getElem_cons_succ, List.setIfInBounds_toArray, List.set_cons_zero, List.set_cons_succ]
    refine wpAnyH_take (i := 7) (v := .bool true) rfl (by kernel_rfl) (by kernel_rfl) (by kernel_rfl) (fun _ _ _ h => h) (Or.inl ⟨by rfl, ?_⟩) HX_wa.out ?_
    · intro w' hS; first | (go_simp; done) | (go_simp; with_reducible rfl)
    try simp only [Act.put, List.getElem_toArray, List.getElem_cons_zero, List.getElem_cons_succ, List.setIfInBounds_toArray, List.set_cons_zero, List.set_cons_succ]
    refine wpAnyH_take (i := 8) (v := ?_) rfl (by kernel_rfl) (by kernel_rfl) (by kernel_rfl) (fun _ _ _ h => h) (Or.inl ⟨by rfl, ?_⟩) HX_wa.out ?_
    rotate_left
    · intro w' hS; go_simp; with_reducible rfl
    try simp only [Act.put, List.getElem_toArray, List.getElem_cons_zero, List.getElem_cons_succ, List.setIfInBounds_toArray, List.set_cons_zero, List.set_cons_succ]
    refine wpAnyH_take (i := 9) (v := ?_) rfl (by kernel_rfl) (by kernel_rfl) (by kernel_rfl) (fun _ _ _ h => h) (Or.inl ⟨by rfl, ?_⟩) HX_wa.out ?_
    rotate_left
    · intro w' hS; go_simp; with_reducible rfl
    try simp only [Act.put, List.getElem_toArray, List.getElem_cons_zero, List.getElem_cons_succ, List.setIfInBounds_toArray, List.set_cons_zero, List.set_cons_succ]
    refine wpAnyH_take (i := 10) (v := .agg (phC s e)) rfl (by kernel_rfl) (by kernel_rfl) (by kernel_rfl) (fun _ _ _ h => h) (takes_row 23 (.tmp 3) rfl (by rfl) w.heap.size (by rfl) 23 (phC s e) _ (fun w' hS => hS.p) (by first | exact Tryd.underlying23 | kernel_rfl) (by rfl) ph_load) HX_wa.out ?_
    try simp only [Act.put, List.getElem_toArray, List.getElem_cons_zero, List.getElem_cons_succ, List.setIfInBounds_toArray, List.set_cons_zero, List.set_cons_succ]
    refine wpAnyH_take (i := 12) (v := .agg (phC s e)) rfl (by kernel_rfl) (by kernel_rfl) (by kernel_rfl) (fun _ _ _ h => h) (Or.inl ⟨by rfl, ?_⟩) HX_wa.out ?_
    · intro w' hS
      have h0 : w'.cell? ⟨w.heap.size, 0, none⟩ = some (.int .i64 s) := hS.p.cell 0
      have h1 : w'.cell? ⟨w.heap.size, 1, none⟩ = some (.int .i64 e) := hS.p.cell 1
      first | (go_simp; done) | (go_simp; with_reducible rfl)
    try simp only [Act.put, List.getElem_toArray, List.getElem_cons_zero, List.getElem_cons_succ, List.setIfInBounds_toArray, List.set_cons_zero, List.set_cons_succ]
    refine all_one (i := 11) (by kernel_rfl) rfl (by rfl) (fun K hK => ?_)
    go_simp
    refine (HRT.out wa).mono ?_
    rintro r wb ⟨rfl, hb_wb⟩
    have HX_wb := Lib.hid (HX_wa.out.below hb_wb)
    clear hb_wb
    dsimp only
    refine hK _ _ HX_wb.out ?_
    clear hK
    try simp only [Act.put, List.getElem_toArray, List.getElem_cons_zero, List.getElem_cons_succ, List.setIfInBounds_toArray, List.set_cons_zero, List.set_cons_succ]
    refine all_one (i := 13) (by kernel_rfl) rfl (by rfl) (fun K hK => ?_)
    go_simp
    refine (HRR.out wb).mono ?_
    rintro r wc ⟨rfl, hb_wc⟩
    have HX_wc := Lib.hid (HX_wb.out.below hb_wc)
    clear hb_wc
    dsimp only
    refine hK _ _ HX_wc.out ?_
    clear hK
    try simp only [Act.put, List.getElem_toArray, List.getElem_cons_zero, List.getElem_cons_succ, List.setIfInBounds_toArray, List.set_cons_zero, List.set_cons_succ]
    refine wpAnyH_take (i := 14) (v := .bool true) rfl (by kernel_rfl) (by kernel_rfl) (by kernel_rfl) (fun _ _ _ h => h) (Or.inl ⟨by rfl, ?_⟩) HX_wc.out ?_
    · intro w' hS; first | (go_simp; done) | (go_simp; with_reducible rfl)
    try simp only [Act.put, List.getElem_toArray, List.getElem_cons_zero, List.getElem_cons_succ, List.setIfInBounds_toArray, List.set_cons_zero, List.set_cons_succ]
    refine wpAnyH_take (i := 15) (v := ?_) rfl (by kernel_rfl) (by kernel_rfl) (by kernel_rfl) (fun _ _ _ h => h) (Or.inl ⟨by rfl, ?_⟩) HX_wc.out ?_
    rotate_left
    · intro w' hS; go_simp; with_reducible rfl
    try simp only [Act.put, List.getElem_toArray, List.getElem_cons_zero, List.getElem_cons_succ, List.setIfInBounds_toArray, List.set_cons_zero, List.set_cons_succ]
    refine wpAnyH_take (i := 16) (v := ?_) rfl (by kernel_rfl) (by kernel_rfl) (by kernel_rfl) (fun _ _ _ h => h) (Or.inl ⟨by rfl, ?_⟩) HX_wc.out ?_
    rotate_left
    · intro w' hS; go_simp; with_reducible rfl
    try simp only [Act.put, List.getElem_toArray, List.getElem_cons_zero, List.getElem_cons_succ, List.setIfInBounds_toArray, List.set_cons_zero, List.set_cons_succ]
    refine wpAnyH_take (i := 17) (v := .agg (phC s e)) rfl (by kernel_rfl) (by kernel_rfl) (by kernel_rfl) (fun _ _ _ h => h) (takes_row 23 (.tmp 3) rfl (by rfl) w.heap.size (by rfl) 23 (phC s e) _ (fun w' hS => hS.p) (by first | exact Tryd.underlying23 | kernel_rfl) (by rfl) ph_load) HX_wc.out ?_
    try simp only [Act.put, List.getElem_toArray, List.getElem_cons_zero, List.getElem_cons_succ, List.setIfInBounds_toArray, List.set_cons_zero, List.set_cons_succ]
    refine wpAnyH_take (i := 19) (v := ?_) rfl (by kernel_rfl) (by kernel_rfl) (by kernel_rfl) (fun _ _ _ h => h) (Or.inl ⟨by rfl, ?_⟩) HX_wc.out ?_
    rotate_left
    · intro w' hS; go_simp; with_reducible rfl
    try simp only [Act.put, List.getElem_toArray, List.getElem_cons_zero, List.getElem_cons_succ, List.setIfInBounds_toArray, List.set_cons_zero, List.set_cons_succ]
    refine all_one (i := 18) (by kernel_rfl) rfl (by rfl) (fun K hK => ?_)
    go_simp
    refine (HNM.out wc HX_wc.out.bel).mono ?_
    rintro r wd ⟨rfl, hb_wd⟩
    have HX_wd := Lib.hid (HX_wc.out.below hb_wd)
    clear hb_wd
    dsimp only
    refine hK _ _ HX_wd.out ?_
    clear hK
    try simp only [Act.put, List.getElem_toArray, List.getElem_cons_zero, List.getElem_cons_succ, List.setIfInBounds_toArray, List.set_cons_zero, List.set_cons_succ]
    refine wpAnyH_take (i := 20) (v := .bool true) rfl (by kernel_rfl) (by kernel_rfl) (by kernel_rfl) (fun _ _ _ h => h) (Or.inl ⟨by rfl, ?_⟩) HX_wd.out ?_
    · intro w' hS; first | (go_simp; done) | (go_simp; with_reducible rfl)
    try simp only [Act.put, List.getElem_toArray, List.getElem_cons_zero, List.getElem_cons_succ, List.setIfInBounds_toArray, List.set_cons_zero, List.set_cons_succ]
    refine wpAnyH_take (i := 21) (v := ?_) rfl (by kernel_rfl) (by kernel_rfl) (by kernel_rfl) (fun _ _ _ h => h) (Or.inl ⟨by rfl, ?_⟩) HX_wd.out ?_
    rotate_left
    · intro w' hS; go_simp; with_reducible rfl
    try simp only [Act.put, List.getElem_toArray, List.getElem_cons_zero, List.getElem_cons_succ, List.setIfInBounds_toArray, List.set_cons_zero, List.set_cons_succ]
    refine wpAnyH_take (i := 22) (v := ?_) rfl (by kernel_rfl) (by kernel_rfl) (by kernel_rfl) (fun _ _ _ h => h) (Or.inl ⟨by rfl, ?_⟩) HX_wd.out ?_
    rotate_left
    · intro w' hS; go_simp; with_reducible rfl
    try simp only [Act.put, List.getElem_toArray, List.getElem_cons_zero, List.getElem_cons_succ, List.setIfInBounds_toArray, List.set_cons_zero, List.set_cons_succ]
    refine wpAnyH_take (i := 23) (v := .agg (phC s e)) rfl (by kernel_rfl) (by kernel_rfl) (by kernel_rfl) (fun _ _ _ h => h) (takes_row 23 (.tmp 3) rfl (by rfl) w.heap.size (by rfl) 23 (phC s e) _ (fun w' hS => hS.p) (by first | exact Tryd.underlying23 | kernel_rfl) (by rfl) ph_load) HX_wd.out ?_
    try simp only [Act.put, List.getElem_toArray, List.getElem_cons_zero, List.getElem_cons_succ, List.setIfInBounds_toArray, List.set_cons_zero, List.set_cons_succ]
    refine wpAnyH_take (i := 25) (v := ?_) rfl (by kernel_rfl) (by kernel_rfl) (by kernel_rfl) (fun _ _ _ h => h) (Or.inl ⟨by rfl, ?_⟩) HX_wd.out ?_
    rotate_left
    · intro w' hS; go_simp; with_reducible rfl
    try simp only [Act.put, List.getElem_toArray, List.getElem_cons_zero, List.getElem_cons_succ, List.setIfInBounds_toArray, List.set_cons_zero, List.set_cons_succ]
    refine wpAnyH_take (i := 26) (v := ?_) rfl (by kernel_rfl) (by kernel_rfl) (by kernel_rfl) (fun _ _ _ h => h) (Or.inl ⟨by rfl, ?_⟩) HX_wd.out ?_
    rotate_left
    · intro w' hS; have h0 : w'.cell? ⟨w.heap.size, 0, none⟩ = some (.int .i64 s) := hS.p.cell 0; go_simp; with_reducible rfl
    try simp only [Act.put, List.getElem_toArray, List.getElem_cons_zero, List.getElem_cons_succ, List.setIfInBounds_toArray, List.set_cons_zero, List.set_cons_succ]
    refine wpAnyH_take (i := 27) (v := ?_) rfl (by kernel_rfl) (by kernel_rfl) (by kernel_rfl) (fun _ _ _ h => h) (Or.inl ⟨by rfl, ?_⟩) HX_wd.out ?_
    rotate_left
    · intro w' hS; go_simp; with_reducible rfl
    try simp only [Act.put, List.getElem_toArray, List.getElem_cons_zero, List.getElem_cons_succ, List.setIfInBounds_toArray, List.set_cons_zero, List.set_cons_succ]
    refine all_one (i := 24) (by kernel_rfl) rfl (by rfl) (fun K hK => ?_)
    go_simp
    refine (HWR.out wd).mono ?_
    rintro r we ⟨rfl, hb_we⟩
    have HX_we := Lib.hid (HX_wd.out.below hb_we)
    clear hb_we
    dsimp only
    refine hK _ _ HX_we.out ?_
    clear hK
    try simp only [Act.put, List.getElem_toArray, List.getElem_cons_zero, List.getElem_cons_succ, List.setIfInBounds_toArray, List.set_cons_zero, List.set_cons_succ]
    refine wpAnyH_take (i := 28) (v := .bool true) rfl (by kernel_rfl) (by kernel_rfl) (by kernel_rfl) (fun _ _ _ h => h) (Or.inl ⟨by rfl, ?_⟩) HX_we.out ?_
    · intro w' hS; first | (go_simp; done) | (go_simp; with_reducible rfl)
    try simp only [Act.put, List.getElem_toArray, List.getElem_cons_zero, List.getElem_cons_succ, List.setIfInBounds_toArray, List.set_cons_zero, List.set_cons_succ]
    refine wpAnyH_take (i := 29) (v := ?_) rfl (by kernel_rfl) (by kernel_rfl) (by kernel_rfl) (fun _ _ _ h => h) (Or.inl ⟨by rfl, ?_⟩) HX_we.out ?_
    rotate_left
    · intro w' hS; go_simp; with_reducible rfl
    try simp only [Act.put, List.getElem_toArray, List.getElem_cons_zero, List.getElem_cons_succ, List.setIfInBounds_toArray, List.set_cons_zero, List.set_cons_succ]
    refine wpAnyH_take (i := 30) (v := ?_) rfl (by kernel_rfl) (by kernel_rfl) (by kernel_rfl) (fun _ _ _ h => h) (Or.inl ⟨by rfl, ?_⟩) HX_we.out ?_
    rotate_left
    · intro w' hS; go_simp; with_reducible rfl
    try simp only [Act.put, List.getElem_toArray, List.getElem_cons_zero, List.getElem_cons_succ, List.setIfInBounds_toArray, List.set_cons_zero, List.set_cons_succ]
    refine wpAnyH_done (by kernel_rfl) ?_ _
    go_wp2
    go_ret
    exact ⟨rfl, HX_we.out.bel⟩
set_option maxRecDepth 100000 in
theorem pevents_law (s e ev x : Int) (a : Nat → Addr) (w : World) (hS : Sents w a) (hN : NamesAt w) :
    Calls Tryd.prog 3 #[phV s e, .int .i64 ev, .int .i64 x] w fun e w' => e = .returned (.bool true) ∧ Below w.heap.size w w' := by
  by_cases h : 0 ≤ s ∧ s < 6
  · exact pevents_known s e ev x a w hS hN h.1 h.2
  · exact pevents_none s e ev x a w hS hN (by omega)
end Go.Proofs.YtagplmlhpocbjaaDoor
