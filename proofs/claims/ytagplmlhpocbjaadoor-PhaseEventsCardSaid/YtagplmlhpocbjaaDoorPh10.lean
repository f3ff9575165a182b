/- The document's Right and Admit; the number of an error or none. -/
import Derived.Test.YtagplmlhpocbjaaDoorPh8
namespace Go.Proofs.YtagplmlhpocbjaaDoor
open Go Go.RowKit
theorem numE_any (k : Nat) (hk : k ≤ 22) (a : Nat → Addr) (w : World) (hS : Sents w a) : Calls Tryd.prog 10 #[erV a k] w fun r w' => r = .returned (.int .i64 (k : Nat)) ∧ Below w.heap.size w w' := by
  cases k with
  | zero => exact (num_nil w).mono fun r w' h => ⟨h.1, h.2 ▸ Below.refl _ _⟩
  | succ k => exact num_any k (by omega) a w hS
set_option maxRecDepth 100000 in
theorem rright_any (s e : Int) (w : World) : Calls Tryd.prog 12 #[phV s e] w fun r w' => r = .returned (.bool (Ph.rt s e)) ∧ Below w.heap.size w w' := by
  have HR : Hid (Ph.rt s e = decide (0 ≤ s ∧ s < 6 ∧ 0 ≤ e ∧ e ≤ 1099511627776 ∧ (s = 0 ↔ e = 0))) := Lib.hid rfl
  generalize Ph.rt s e = q at HR ⊢
  unfold phV
  by_cases h1 : s < 0
  · have HE : Hid (q = false) := Lib.hid (by rw [HR.out]; simp only [decide_eq_false_iff_not]; omega)
    rw [HE.out]
    clear HR HE
    go_enter Tryd.func12, Tryd.ntmps12
    go_wp2
    go_ret
    exact ⟨rfl, (Below.refl _ _).alloc (Nat.le_refl _) _⟩
  · by_cases h2 : 5 < s
    · have HE : Hid (q = false) := Lib.hid (by rw [HR.out]; simp only [decide_eq_false_iff_not]; omega)
      rw [HE.out]
      clear HR HE
      go_enter Tryd.func12, Tryd.ntmps12
      go_wp2
      go_ret
      exact ⟨rfl, (Below.refl _ _).alloc (Nat.le_refl _) _⟩
    · by_cases h3 : e < 0
      · have HE : Hid (q = false) := Lib.hid (by rw [HR.out]; simp only [decide_eq_false_iff_not]; omega)
        rw [HE.out]
        clear HR HE
        go_enter Tryd.func12, Tryd.ntmps12
        go_wp2
        go_ret
        exact ⟨rfl, (Below.refl _ _).alloc (Nat.le_refl _) _⟩
      · by_cases h4 : 1099511627776 < e
        · have HE : Hid (q = false) := Lib.hid (by rw [HR.out]; simp only [decide_eq_false_iff_not]; omega)
          rw [HE.out]
          clear HR HE
          go_enter Tryd.func12, Tryd.ntmps12
          go_wp2
          go_ret
          exact ⟨rfl, (Below.refl _ _).alloc (Nat.le_refl _) _⟩
        · by_cases h5 : s = 0
          · subst h5
            have HE : Hid (q = (e == 0)) := Lib.hid (by rw [HR.out]; rw [Bool.eq_iff_iff, decide_eq_true_eq, beq_iff_eq]; exact ⟨fun h => h.2.2.2.2.1 rfl, fun h => ⟨by omega, by omega, by omega, by omega, fun _ => h, fun _ => rfl⟩⟩)
            rw [HE.out]
            clear HR HE
            go_enter Tryd.func12, Tryd.ntmps12
            go_wp2
            go_ret
            exact ⟨rfl, (Below.refl _ _).alloc (Nat.le_refl _) _⟩
          · have g5 : (s == 0) = false := by simpa using h5
            have HE : Hid (q = decide (0 < e)) := Lib.hid (by rw [HR.out]; rw [Bool.eq_iff_iff, decide_eq_true_eq, decide_eq_true_eq]; omega)
            rw [HE.out]
            clear HR HE
            go_enter Tryd.func12, Tryd.ntmps12
            go_wp2
            go_ret
            exact ⟨rfl, (Below.refl _ _).alloc (Nat.le_refl _) _⟩
set_option maxRecDepth 100000 in
theorem radmit_any (s e x : Int) (w : World) : Calls Tryd.prog 16 #[phV s e, .int .i64 x] w fun r w' => r = .returned (.int .i64 ((Ph.admit s e x : Nat) : Int)) ∧ Below w.heap.size w w' := by
  obtain ⟨w0, hw0⟩ : ∃ w0, w0 = w.alloc (.cells (phC s e) 30) := ⟨_, rfl⟩
  have HX0 : Hid (Blk w0 w.heap.size 30 (phC s e)) := Lib.hid (hw0 ▸ Blk.new w _ _)
  have HB0 : Hid (Below w.heap.size w w0) := Lib.hid (hw0 ▸ (Below.refl _ _).alloc (Nat.le_refl _) _)
  have HM : Hid (Ph.admit s e x = if Ph.rt s e = false then 16 else if x < e ∨ (x = e ∧ [4, 5].contains s = true) then 18 else if x = e ∧ s = 2 then 0 else 16) := Lib.hid rfl
  have HRT : Hid (Ph.rt s e = true → 0 ≤ s ∧ s < 6) := Lib.hid (by intro h; simp only [Ph.rt, decide_eq_true_eq] at h; omega)
  have CR := rright_any s e w0
  have HW := Lib.hid hw0
  clear hw0
  generalize Ph.admit s e x = q at HM ⊢
  generalize Ph.rt s e = ρ at HM CR HRT
  unfold phV at CR ⊢
  go_enter Tryd.func16, Tryd.ntmps16
  go_wp2_with (go_at_call 12; refine pause ?_)
  unfold Paused
  rw [← HW.out]
  refine CR.mono ?_
  rintro r w1 ⟨rfl, hb1⟩
  have HB1 := Lib.hid (HB0.out.trans (hb1.mono HB0.out.size))
  have hx1 := HX0.out.below hb1 HX0.out.lt
  have c0 : w1.cell? ⟨w.heap.size, 0, none⟩ = some (.int .i64 s) := hx1.cell 0
  have c1 : w1.cell? ⟨w.heap.size, 1, none⟩ = some (.int .i64 e) := hx1.cell 1
  clear hb1 CR hx1
  clear w0 HW HX0 HB0
  cases ρ with
  | false =>
    have HQ : Hid (q = 16) := Lib.hid HM.out
    clear HM HRT
    go_wp2
    go_ret
    exact ⟨by rw [HQ.out]; rfl, HB1.out⟩
  | true =>
    obtain ⟨hs0, hs6⟩ := HRT.out rfl
    have HS0 := Lib.hid hs0
    have HS6 := Lib.hid hs6
    clear hs0 hs6 HRT
    by_cases h1 : x < e
    · have HQ : Hid (q = 18) := Lib.hid (by rw [HM.out, if_neg (by simp), if_pos (Or.inl h1)])
      clear HM
      go_wp2
      go_ret
      exact ⟨by rw [HQ.out]; rfl, HB1.out⟩
    · by_cases h2 : x = e
      · subst h2
        by_cases h3 : 4 ≤ s
        · have HQ : Hid (q = 18) := Lib.hid (by rw [HM.out, if_neg (by simp), if_pos (Or.inr ⟨rfl, by have h1 := HS6.out; have h2 : s = 4 ∨ s = 5 := by omega
                                                                                                      rcases h2 with rfl | rfl <;> rfl⟩)])
          clear HM
          go_wp2
          go_ret
          exact ⟨by rw [HQ.out]; rfl, HB1.out⟩
        · have h45 : [4, 5].contains s = false := by
            rw [Bool.eq_false_iff, Ne, List.contains_iff_mem]
            simp only [List.mem_cons, List.not_mem_nil, or_false]
            omega
          rw [h45] at HM
          clear h45
          by_cases h4 : s = 2
          · have HQ : Hid (q = 0) := Lib.hid (by rw [HM.out, if_neg (by simp), if_neg (by simp), if_pos ⟨rfl, h4⟩])
            have g4 : (s == 2) = true := by simp [h4]
            have H4 := Lib.hid h4
            clear HM h4
            go_wp2
            go_ret
            exact ⟨by rw [HQ.out]; rfl, HB1.out⟩
          · have HQ : Hid (q = 16) := Lib.hid (by rw [HM.out, if_neg (by simp), if_neg (by simp), if_neg (by simp [h4])])
            have g4 : (s == 2) = false := by simpa using h4
            clear HM
            go_wp2
            go_ret
            exact ⟨by rw [HQ.out]; rfl, HB1.out⟩
      · have g2 : (x == e) = false := by simpa using h2
        have HQ : Hid (q = 16) := Lib.hid (by rw [HM.out, if_neg (by simp), if_neg (by simp [h1, h2]), if_neg (by simp [h2])])
        clear HM
        by_cases h4 : s = 2
        · have g4 : (s == 2) = true := by simp [h4]
          have H4 := Lib.hid h4
          clear h4
          go_wp2
          go_ret
          exact ⟨by rw [HQ.out]; rfl, HB1.out⟩
        · have g4 : (s == 2) = false := by simpa using h4
          go_wp2
          go_ret
          exact ⟨by rw [HQ.out]; rfl, HB1.out⟩
end Go.Proofs.YtagplmlhpocbjaaDoor
