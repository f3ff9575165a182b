/- Which stamps are admitted. -/
import Derived.Test.YtagplmlhpocbjaaDoorPh5
namespace Go.Proofs.YtagplmlhpocbjaaDoor
open Go Go.RowKit
/-- what stands while a stamp is judged -/
def PhA (w w' : World) (s e : Int) : Prop := Blk w' w.heap.size 23 (phC s e) ∧ Below w.heap.size w w'
theorem PhA.below {w w1 w2 : World} {s e : Int} (h : PhA w w1 s e) (hb : Below w1.heap.size w1 w2) : PhA w w2 s e := ⟨h.1.below hb h.1.lt, h.2.trans (hb.mono h.2.size)⟩
set_option maxRecDepth 100000 in
theorem admit_any (s e x : Int) (a : Nat → Addr) (w : World) (hS : Sents w a) :
    Calls Tryd.prog 15 #[phV s e, .int .i64 x] w fun r w' => r = .returned (erV a (Ph.admit s e x)) ∧ Below w.heap.size w w' := by
  obtain ⟨w0, hw0⟩ : ∃ w0, w0 = w.alloc (.cells (phC s e) 23) := ⟨_, rfl⟩
  have HP : Hid (PhA w w0 s e) := Lib.hid ⟨hw0 ▸ Blk.new w _ _, hw0 ▸ (Below.refl _ _).alloc (Nat.le_refl _) _⟩
  have HS := Lib.hid hS
  have HM : Hid (Ph.admit s e x = if Ph.rt s e = false then 16 else if x < e ∨ (x = e ∧ [4, 5].contains s = true) then 18 else if x = e ∧ s = 2 then 0 else 16) := Lib.hid rfl
  have CR := right_any s e w0
  have HCI : Hid (∀ W, Calls Tryd.prog 25 #[phV s e, .slice (some ⟨W.heap.size, 0, none⟩) 2 2] (W.alloc (.cells #[.int .i64 4, .int .i64 5] 3)) fun r w' => r = .returned (.bool ([4, 5].contains s)) ∧ Below W.heap.size W w') := Lib.hid (fun W => by
    have hb1 : Below W.heap.size W (W.alloc (.cells #[.int .i64 4, .int .i64 5] 3)) := (Below.refl _ _).alloc (Nat.le_refl _) _
    refine (in_any s e _ [4, 5] _ (rdi_new W [4, 5] 3) (by decide)).mono ?_
    rintro r w1 ⟨rfl, hb⟩
    exact ⟨rfl, hb1.trans (hb.mono hb1.size)⟩)
  have HCW : Hid (∀ W, Calls Tryd.prog 14 #[phV s e] W fun r w' => r = .returned (.bool (s == 2)) ∧ Below W.heap.size W w') := Lib.hid (fun W => writes_any s e W)
  have HW := Lib.hid hw0
  clear hw0 hS
  generalize Ph.admit s e x = q at HM ⊢
  generalize [4, 5].contains s = β at HM HCI
  generalize Ph.rt s e = ρ at HM CR
  unfold phV at CR HCI HCW ⊢
  go_enter Tryd.func15, Tryd.ntmps15
  go_wp2_with (go_at_call 11; refine pause ?_)
  unfold Paused
  rw [← HW.out]
  refine CR.mono ?_
  rintro r w1 ⟨rfl, hb1⟩
  have hp1 := HP.out.below hb1
  have HP1 := Lib.hid hp1
  have hg15 : w1.cell? ⟨15, 0, none⟩ = some (ev (a 15)) := ((HS.out.below hp1.2 (Nat.le_refl _)) 15 (by omega)).var
  have hg17 : w1.cell? ⟨17, 0, none⟩ = some (ev (a 17)) := ((HS.out.below hp1.2 (Nat.le_refl _)) 17 (by omega)).var
  have c1 : w1.cell? ⟨w.heap.size, 1, none⟩ = some (.int .i64 e) := hp1.1.cell 1
  clear hb1 CR hp1
  clear w0 HW HP
  cases ρ with
  | false =>
    obtain rfl := HM.out
    go_wp2
    go_ret
    exact ⟨rfl, HP1.out.2⟩
  | true =>
    by_cases h1 : x < e
    · have HQ : Hid (q = 18) := Lib.hid (by rw [HM.out, if_neg (by simp), if_pos (Or.inl h1)])
      go_wp2
      go_ret
      exact ⟨by rw [HQ.out]; rfl, HP1.out.2⟩
    · by_cases h2 : x = e
      · have CI := HCI.out w1
        go_wp2_with (with_reducible (show wpList _ _ _ (Oper.mk _ (Op.load 23 _) _ _ _ _ :: _) _ _); refine pause ?_)
        unfold Paused
        refine wpList_row_w (by rfl) 23 (.tmp 2) (by rfl) w.heap.size (by rfl) 23 (phC s e) _ HP1.out.1 Tryd.underlying23 rfl ph_load ?_
        try simp only [Act.put, List.setIfInBounds_toArray, List.set_cons_zero, List.set_cons_succ]
        go_wp2_with (go_at_call 25; refine pause ?_)
        unfold Paused
        refine CI.mono ?_
        rintro r w2 ⟨rfl, hb2⟩
        have hp2 := HP1.out.below hb2
        have HP2 := Lib.hid hp2
        clear CI hg15 hg17 c1 HP1 hb2
        have hg15 : w2.cell? ⟨15, 0, none⟩ = some (ev (a 15)) := ((HS.out.below hp2.2 (Nat.le_refl _)) 15 (by omega)).var
        have hg17 : w2.cell? ⟨17, 0, none⟩ = some (ev (a 17)) := ((HS.out.below hp2.2 (Nat.le_refl _)) 17 (by omega)).var
        have c1 : w2.cell? ⟨w.heap.size, 1, none⟩ = some (.int .i64 e) := hp2.1.cell 1
        clear hp2 HCI
        cases β with
        | true =>
          have HQ : Hid (q = 18) := Lib.hid (by rw [HM.out, if_neg (by simp), if_pos (Or.inr ⟨h2, rfl⟩)])
          go_wp2
          go_ret
          exact ⟨by rw [HQ.out]; rfl, HP2.out.2⟩
        | false =>
          have CW := HCW.out w2
          go_wp2_with (with_reducible (show wpList _ _ _ (Oper.mk _ (Op.load 23 _) _ _ _ _ :: _) _ _); refine pause ?_)
          unfold Paused
          refine wpList_row_w (by rfl) 23 (.tmp 2) (by rfl) w.heap.size (by rfl) 23 (phC s e) _ HP2.out.1 Tryd.underlying23 rfl ph_load ?_
          try simp only [Act.put, List.setIfInBounds_toArray, List.set_cons_zero, List.set_cons_succ]
          go_wp2_with (go_at_call 14; refine pause ?_)
          unfold Paused
          refine CW.mono ?_
          rintro r w3 ⟨rfl, hb3⟩
          have hp3 := HP2.out.below hb3
          have HP3 := Lib.hid hp3
          clear CW hg15 hg17 c1 HP2 hb3
          have hg15 : w3.cell? ⟨15, 0, none⟩ = some (ev (a 15)) := ((HS.out.below hp3.2 (Nat.le_refl _)) 15 (by omega)).var
          clear hp3
          by_cases h3 : s = 2
          · have g3 : (s == 2) = true := by simp [h3]
            have HQ : Hid (q = 0) := Lib.hid (by rw [HM.out, if_neg (by simp), if_neg (by simp [h1]), if_pos ⟨h2, h3⟩])
            rw [g3]
            go_wp2
            go_ret
            exact ⟨by rw [HQ.out]; rfl, HP3.out.2⟩
          · have g3 : (s == 2) = false := by simpa using h3
            have HQ : Hid (q = 16) := Lib.hid (by rw [HM.out, if_neg (by simp), if_neg (by simp [h1]), if_neg (by simp [h3])])
            rw [g3]
            go_wp2
            go_ret
            exact ⟨by rw [HQ.out]; rfl, HP3.out.2⟩
      · have g2 : (x == e) = false := by simpa using h2
        have HQ : Hid (q = 16) := Lib.hid (by rw [HM.out, if_neg (by simp), if_neg (by simp [h1, h2]), if_neg (by simp [h2])])
        go_wp2
        go_ret
        exact ⟨by rw [HQ.out]; rfl, HP1.out.2⟩
end Go.Proofs.YtagplmlhpocbjaaDoor
