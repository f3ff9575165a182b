/- The program's small functions: known, in, Right, Writes. -/
import Derived.Test.YtagplmlhpocbjaaDoorPh1
namespace Go.Proofs.YtagplmlhpocbjaaDoor
open Go Go.RowKit
abbrev phC (s e : Int) : Array Value := #[.int .i64 s, .int .i64 e]
theorem ph_load : (Tryd.prog.info? 23).map (·.size) = some 2 := by kernel_rfl
set_option maxRecDepth 100000 in
theorem known_any (s e : Int) (w : World) : Calls Tryd.prog 24 #[phV s e] w fun r w' => r = .returned (.bool (decide (0 ≤ s ∧ s < 6))) ∧ Below w.heap.size w w' := by
  unfold phV
  by_cases h1 : 0 ≤ s
  · by_cases h2 : s < 6
    · have H : Hid (decide (0 ≤ s ∧ s < 6) = true) := Lib.hid (by simp [h1, h2])
      rw [H.out]
      go_enter Tryd.func24, Tryd.ntmps24
      go_wp2
      go_ret
      exact ⟨by simp, (Below.refl _ _).alloc (Nat.le_refl _) _⟩
    · have H : Hid (decide (0 ≤ s ∧ s < 6) = false) := Lib.hid (by simp [h2])
      rw [H.out]
      go_enter Tryd.func24, Tryd.ntmps24
      go_wp2
      go_ret
      exact ⟨by simp, (Below.refl _ _).alloc (Nat.le_refl _) _⟩
  · have H : Hid (decide (0 ≤ s ∧ s < 6) = false) := Lib.hid (by simp [h1])
    rw [H.out]
    go_enter Tryd.func24, Tryd.ntmps24
    go_wp2
    go_ret
    exact ⟨by simp, (Below.refl _ _).alloc (Nat.le_refl _) _⟩
set_option maxRecDepth 100000 in
theorem in_any (s e : Int) (v : Value) (xs : List Int) (w : World) (h : RdI w v xs) (hn : xs.length ≤ 100000) :
    Calls Tryd.prog 25 #[phV s e, v] w fun r w' => r = .returned (.bool (xs.contains s)) ∧ Below w.heap.size w w' := by
  obtain ⟨w0, hw0⟩ : ∃ w0, w0 = w.alloc (.cells (phC s e) 23) := ⟨_, rfl⟩
  have hb0 : Below w.heap.size w w0 := hw0 ▸ (Below.refl _ _).alloc (Nat.le_refl _) _
  have C := contains_any v xs s w0 (h.below hb0 (Nat.le_refl _)) hn
  have hv : ∃ A c, v = .slice A xs.length c := by obtain ⟨A, c, rfl, _⟩ := h; exact ⟨A, c, rfl⟩
  clear h
  generalize xs.contains s = β at C ⊢
  obtain ⟨A, c, rfl⟩ := hv
  generalize xs.length = n at C hn ⊢
  have HW := Lib.hid hw0
  have HB := Lib.hid hb0
  clear hw0 hb0
  unfold phV
  go_enter Tryd.func25, Tryd.ntmps25
  go_wp2_with (go_at_call 30; refine pause ?_)
  unfold Paused
  rw [← HW.out]
  refine C.mono ?_
  rintro r w' ⟨rfl, rfl⟩
  go_wp2
  go_ret
  exact ⟨rfl, HB.out⟩
set_option maxRecDepth 100000 in
theorem writes_any (s e : Int) (w : World) : Calls Tryd.prog 14 #[phV s e] w fun r w' => r = .returned (.bool (s == 2)) ∧ Below w.heap.size w w' := by
  unfold phV
  go_enter Tryd.func14, Tryd.ntmps14
  go_wp2
  go_ret
  exact ⟨rfl, (Below.refl _ _).alloc (Nat.le_refl _) _⟩
set_option maxRecDepth 100000 in
theorem right_any (s e : Int) (w : World) : Calls Tryd.prog 11 #[phV s e] w fun r w' => r = .returned (.bool (Ph.rt s e)) ∧ Below w.heap.size w w' := by
  obtain ⟨w0, hw0⟩ : ∃ w0, w0 = w.alloc (.cells (phC s e) 23) := ⟨_, rfl⟩
  have HB0 : Hid (Below w.heap.size w w0) := Lib.hid (hw0 ▸ (Below.refl _ _).alloc (Nat.le_refl _) _)
  have HX : Hid (Blk w0 w.heap.size 23 (phC s e)) := Lib.hid (hw0 ▸ Blk.new w _ _)
  have HW := Lib.hid hw0
  have HR : Hid (Ph.rt s e = decide (0 ≤ s ∧ s < 6 ∧ 0 ≤ e ∧ e ≤ 1099511627776 ∧ (s = 0 ↔ e = 0))) := Lib.hid rfl
  clear hw0
  unfold phV
  go_enter Tryd.func11, Tryd.ntmps11
  go_wp2_with (go_at_call 24; refine pause ?_)
  unfold Paused
  rw [← HW.out]
  have C := known_any s e w0
  unfold phV at C
  refine C.mono ?_
  rintro r w1 ⟨rfl, hb1⟩
  have HB1 := Lib.hid (HB0.out.trans (hb1.mono HB0.out.size))
  have hx1 := HX.out.below hb1 HX.out.lt
  have c0 : w1.cell? ⟨w.heap.size, 0, none⟩ = some (.int .i64 s) := hx1.cell 0
  have c1 : w1.cell? ⟨w.heap.size, 1, none⟩ = some (.int .i64 e) := hx1.cell 1
  clear hx1 hb1 C
  by_cases h1 : 0 ≤ s ∧ s < 6
  · have d1 : decide (0 ≤ s ∧ s < 6) = true := decide_eq_true h1
    rw [d1]
    by_cases h2 : 0 ≤ e
    · by_cases h3 : e ≤ 1099511627776
      · have HE : Hid (Ph.rt s e = ((s == 0) == (e == 0))) := Lib.hid (by
          rw [HR.out, Bool.eq_iff_iff]
          simp only [decide_eq_true_eq, beq_iff_eq]
          rw [Bool.eq_iff_iff]
          simp only [beq_iff_eq]
          exact ⟨fun h => h.2.2.2.2, fun h => ⟨h1.1, h1.2, h2, h3, h⟩⟩)
        go_wp2
        go_ret
        exact ⟨by rw [HE.out]; rfl, HB1.out⟩
      · have HE : Hid (Ph.rt s e = false) := Lib.hid (by rw [HR.out]; simp only [decide_eq_false_iff_not]; omega)
        go_wp2
        go_ret
        exact ⟨by rw [HE.out]; first | rfl | simp [h3], HB1.out⟩
    · have HE : Hid (Ph.rt s e = false) := Lib.hid (by rw [HR.out]; simp only [decide_eq_false_iff_not]; omega)
      go_wp2
      go_ret
      exact ⟨by rw [HE.out]; first | rfl | simp [h2], HB1.out⟩
  · have d1 : decide (0 ≤ s ∧ s < 6) = false := decide_eq_false h1
    have HE : Hid (Ph.rt s e = false) := Lib.hid (by rw [HR.out]; simp only [decide_eq_false_iff_not]; omega)
    rw [d1]
    go_wp2
    go_ret
    exact ⟨by rw [HE.out]; rfl, HB1.out⟩
end Go.Proofs.YtagplmlhpocbjaaDoor
