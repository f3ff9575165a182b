/- The law PhaseAdmits. -/
import Derived.Test.YtagplmlhpocbjaaDoorPh10
namespace Go.Proofs.YtagplmlhpocbjaaDoor
open Go Go.RowKit
/-- what stands while a law works -/
def PhL (w : World) (B : Nat) (s e : Int) (w' : World) : Prop := Blk w' B 23 (phC s e) ∧ Below w.heap.size w w'
theorem PhL.below {w w1 w2 : World} {B : Nat} {s e : Int} (h : PhL w B s e w1) (hb : Below w1.heap.size w1 w2) : PhL w B s e w2 := ⟨h.1.below hb h.1.lt, h.2.trans (hb.mono h.2.size)⟩
theorem PhL.drew {w w1 : World} {B : Nat} {s e : Int} (h : PhL w B s e w1) : PhL w B s e w1.drew := ⟨h.1.drew, below_drewN h.2 1⟩
theorem rph_load : (Tryd.prog.info? 30).map (·.size) = some 2 := by kernel_rfl
theorem ph_admit22 (s e x : Int) : Ph.admit s e x ≤ 22 := by
  unfold Ph.admit
  split
  · omega
  · split
    · omega
    · split <;> omega
set_option maxRecDepth 100000 in
set_option maxHeartbeats 4000000 in
theorem padmits_law (s e x : Int) (a : Nat → Addr) (w : World) (hS : Sents w a) :
    Calls Tryd.prog 4 #[phV s e, .int .i64 x] w fun e w' => e = .returned (.bool true) ∧ Below w.heap.size w w' := by
  obtain ⟨w0, hw0⟩ : ∃ w0, w0 = w.alloc (.cells (phC s e) 23) := ⟨_, rfl⟩
  have HP0 : Hid (PhL w w.heap.size s e w0) := Lib.hid ⟨hw0 ▸ Blk.new w _ _, hw0 ▸ (Below.refl _ _).alloc (Nat.le_refl _) _⟩
  have CA := phalive_any a w0 (hS.below HP0.out.2 (Nat.le_refl _))
  have HS := Lib.hid hS
  have HW := Lib.hid hw0
  have H22 := Lib.hid (ph_admit22 s e x)
  have HCA : Hid (∀ W, PhL w w.heap.size s e W → Calls Tryd.prog 15 #[.agg (phC s e), .int .i64 x] W fun r w' => r = .returned (erV a (Ph.admit s e x)) ∧ PhL w w.heap.size s e w') := Lib.hid (fun W h => (admit_any s e x a W (HS.out.below h.2 (Nat.le_refl _))).mono fun r w' k => ⟨k.1, h.below k.2⟩)
  have HCR : Hid (∀ W, PhL w w.heap.size s e W → Calls Tryd.prog 16 #[.agg (phC s e), .int .i64 x] W fun r w' => r = .returned (.int .i64 ((Ph.admit s e x : Nat) : Int)) ∧ PhL w w.heap.size s e w') := Lib.hid (fun W h => (radmit_any s e x W).mono fun r w' k => ⟨k.1, h.below k.2⟩)
  have HCN : Hid (∀ W, PhL w w.heap.size s e W → Calls Tryd.prog 10 #[erV a (Ph.admit s e x)] W fun r w' => r = .returned (.int .i64 ((Ph.admit s e x : Nat) : Int)) ∧ PhL w w.heap.size s e w') := Lib.hid (fun W h => (numE_any _ H22.out a W (HS.out.below h.2 (Nat.le_refl _))).mono fun r w' k => ⟨k.1, h.below k.2⟩)
  generalize Ph.admit s e x = q at HCA HCR HCN H22
  obtain ⟨u, hu⟩ : ∃ u, u = erV a q := ⟨_, rfl⟩
  rw [← hu] at HCA HCN
  clear hw0 hS hu
  unfold phV
  go_enter Tryd.func4, Tryd.ntmps4
  go_wp2_with (go_at_call 7; refine pause ?_)
  unfold Paused
  rw [← HW.out]
  refine CA.mono ?_
  rintro r w1 ⟨rfl, hb1⟩
  have HP1 := Lib.hid (HP0.out.below hb1)
  clear CA hb1 HW HP0
  clear w0
  go_wp2
  have HSX : Hid (PhL w w.heap.size s e w1.drew) := Lib.hid HP1.out.drew
  refine wp_region_held (S := PhL w w.heap.size s e) (by kernel_rfl) ?_
  change wpAnyH _ _ _ _ _ _ _ _ w1.drew
  refine wpAnyH_take (i := 0) (v := .agg (phC s e)) rfl (by kernel_rfl) (by kernel_rfl) (by kernel_rfl) (fun _ _ _ h => h) (takes_row 23 (.tmp 2) rfl (by rfl) w.heap.size (by rfl) 23 (phC s e) _ (fun w' hS => hS.1) (by first | exact Tryd.underlying23 | kernel_rfl) (by rfl) ph_load) HSX.out ?_
  try simp only [Act.put, List.getElem_toArray, List.getElem_cons_zero, List.setIfInBounds_toArray, List.set_cons_zero, List.set_cons_succ]
  refine wpAnyH_take (i := 1) (v := ?_) rfl (by kernel_rfl) (by kernel_rfl) (by kernel_rfl) (fun _ _ _ h => h) (Or.inl ⟨by rfl, ?_⟩) HSX.out ?_
  rotate_left
  · intro w' hS; go_simp; with_reducible rfl
  try simp only [Act.put, List.getElem_toArray, List.getElem_cons_zero, List.getElem_cons_succ, List.setIfInBounds_toArray, List.set_cons_zero, List.set_cons_succ]
  refine wpAnyH_take (i := 4) (v := .agg (phC s e)) rfl (by kernel_rfl) (by kernel_rfl) (by kernel_rfl) (fun _ _ _ h => h) (Or.inl ⟨by rfl, ?_⟩) HSX.out ?_
  · intro w' hS
    have h0 : w'.cell? ⟨w.heap.size, 0, none⟩ = some (.int .i64 s) := hS.1.cell 0
    have h1 : w'.cell? ⟨w.heap.size, 1, none⟩ = some (.int .i64 e) := hS.1.cell 1
    first | (go_simp; done) | (go_simp; with_reducible rfl)
  try simp only [Act.put, List.getElem_toArray, List.getElem_cons_zero, List.getElem_cons_succ, List.setIfInBounds_toArray, List.set_cons_zero, List.set_cons_succ]
  refine wpAnyH_take (i := 5) (v := ?_) rfl (by kernel_rfl) (by kernel_rfl) (by kernel_rfl) (fun _ _ _ h => h) (Or.inl ⟨by rfl, ?_⟩) HSX.out ?_
  rotate_left
  · intro w' hS; go_simp; with_reducible rfl
  try simp only [Act.put, List.getElem_toArray, List.getElem_cons_zero, List.getElem_cons_succ, List.setIfInBounds_toArray, List.set_cons_zero, List.set_cons_succ]
  refine all_one (i := 2) (by kernel_rfl) rfl (by rfl) (fun K hK => ?_)
  go_simp
  refine (HCA.out w1.drew HSX.out).mono ?_
  rintro r w2 ⟨rfl, hp_w2⟩
  have HX_w2 := Lib.hid hp_w2
  clear hp_w2
  dsimp only
  refine hK _ _ HX_w2.out ?_
  clear hK
  try simp only [Act.put, List.getElem_toArray, List.getElem_cons_zero, List.getElem_cons_succ, List.setIfInBounds_toArray, List.set_cons_zero, List.set_cons_succ]
  refine all_one (i := 3) (by kernel_rfl) rfl (by rfl) (fun K hK => ?_)
  go_simp
  refine (HCN.out w2 HX_w2.out).mono ?_
  rintro r w3 ⟨rfl, hp_w3⟩
  have HX_w3 := Lib.hid hp_w3
  clear hp_w3
  dsimp only
  refine hK _ _ HX_w3.out ?_
  clear hK
  try simp only [Act.put, List.getElem_toArray, List.getElem_cons_zero, List.getElem_cons_succ, List.setIfInBounds_toArray, List.set_cons_zero, List.set_cons_succ]
  refine all_one (i := 6) (by kernel_rfl) rfl (by rfl) (fun K hK => ?_)
  go_simp
  refine (HCR.out w3 HX_w3.out).mono ?_
  rintro r w4 ⟨rfl, hp_w4⟩
  have HX_w4 := Lib.hid hp_w4
  clear hp_w4
  dsimp only
  refine hK _ _ HX_w4.out ?_
  clear hK
  try simp only [Act.put, List.getElem_toArray, List.getElem_cons_zero, List.getElem_cons_succ, List.setIfInBounds_toArray, List.set_cons_zero, List.set_cons_succ]
  refine wpAnyH_take (i := 7) (v := ?_) rfl (by kernel_rfl) (by kernel_rfl) (by kernel_rfl) (fun _ _ _ h => h) (Or.inl ⟨by rfl, ?_⟩) HX_w4.out ?_
  rotate_left
  · intro w' hS; go_simp; with_reducible rfl
  try simp only [Act.put, List.getElem_toArray, List.getElem_cons_zero, List.getElem_cons_succ, List.setIfInBounds_toArray, List.set_cons_zero, List.set_cons_succ]
  refine wpAnyH_take (i := 8) (v := ?_) rfl (by kernel_rfl) (by kernel_rfl) (by kernel_rfl) (fun _ _ _ h => h) (Or.inl ⟨by rfl, ?_⟩) HX_w4.out ?_
  rotate_left
  · intro w' hS; go_simp; with_reducible rfl
  try simp only [Act.put, List.getElem_toArray, List.getElem_cons_zero, List.getElem_cons_succ, List.setIfInBounds_toArray, List.set_cons_zero, List.set_cons_succ]
  refine wpAnyH_done (by kernel_rfl) ?_ _
  go_wp2
  go_ret
  exact ⟨rfl, HX_w4.out.2⟩
end Go.Proofs.YtagplmlhpocbjaaDoor
