/- The law DeltaMake. -/
import Derived.Test.YthagldpgibpbdaaDoorDl26
import Derived.Test.YthagldpgibpbdaaDoorDlApply
namespace Go.Proofs.YthagldpgibpbdaaDoor
open Go Go.RowKit Go.Shelf
set_option maxRecDepth 100000 in
set_option maxHeartbeats 2000000 in
theorem dmakelaw (A A2 : Option Addr) (nb cb nt ct : Nat) (base target : List Nat) (ea : Nat → Addr) (w : World) (hB : Rd w (.slice A nb cb) base) (hT : Rd w (.slice A2 nt ct) target) (bb : Sha.Byte base) (bt : Sha.Byte target) (hS : Sents w ea) (hm : MX w) :
    Calls Tryd.prog 4 #[.slice A nb cb, .slice A2 nt ct] w fun e w' => e = .returned (.bool true) ∧ Below w.heap.size w w' := by
  have en : nb = base.length := by obtain ⟨_, _, hv, _⟩ := hB; injection hv
  have et : nt = target.length := by obtain ⟨_, _, hv, _⟩ := hT; injection hv
  have AL := dalive_any w hm
  by_cases h1 : 400 < nb
  · have g1 : (400 : Int) < nb := by omega
    clear hB hT en et bb bt hS hm
    go_enter Tryd.func4, Tryd.ntmps4
    go_wp2_with (go_at_call 7; refine AL.mono ?_; rintro e w1 ⟨rfl, hb1⟩)
    go_ret
    exact ⟨rfl, hb1⟩
  by_cases h2 : 400 < nt
  · have g1 : ¬ (400 : Int) < nb := by omega
    have g2 : (400 : Int) < nt := by omega
    clear hB hT en et bb bt hS hm
    go_enter Tryd.func4, Tryd.ntmps4
    go_wp2_with (go_at_call 7; refine AL.mono ?_; rintro e w1 ⟨rfl, hb1⟩)
    go_ret
    exact ⟨rfl, hb1⟩
  have g1 : ¬ (400 : Int) < nb := by omega
  have g2 : ¬ (400 : Int) < nt := by omega
  have HB := Lib.hid hB
  have HT := Lib.hid hT
  have HBB := Lib.hid bb
  have HBT := Lib.hid bt
  have HS := Lib.hid hS
  have HMX := Lib.hid hm
  have HEN := Lib.hid en
  have HET := Lib.hid et
  clear hB hT bb bt hS hm en et
  by_cases h3 : 300 < nb ∨ 300 < nt
  · have LG := fun (w' : World) (h : Below w.heap.size w w') => dmake_large A A2 nb cb nt ct ea w' (HS.out.below h (Nat.le_refl _)) h3 (by omega) (by omega)
    have NUM := fun (w' : World) (h : Below w.heap.size w w') => num_any 12 (by omega) ea w' (HS.out.below h (Nat.le_refl _))
    by_cases h4 : 300 < nb
    · have g3 : (300 : Int) < nb := by omega
      go_enter Tryd.func4, Tryd.ntmps4
      go_wp2_with (first | (go_at_call 7; refine AL.mono ?_; rintro e w1 ⟨rfl, hb1⟩) | (go_at_call 16; refine (LG w1 hb1).mono ?_; rintro e w2 ⟨rfl, hb2⟩; have hb3 := hb1.trans (hb2.mono hb1.size)) | (go_at_call 11; refine (NUM w2 hb3).mono ?_; rintro e w4 ⟨rfl, hb4⟩))
      go_ret
      exact ⟨rfl, hb3.trans (hb4.mono hb3.size)⟩
    · have g3 : ¬ (300 : Int) < nb := by omega
      have g4 : (300 : Int) < nt := by omega
      go_enter Tryd.func4, Tryd.ntmps4
      go_wp2_with (first | (go_at_call 7; refine AL.mono ?_; rintro e w1 ⟨rfl, hb1⟩) | (go_at_call 16; refine (LG w1 hb1).mono ?_; rintro e w2 ⟨rfl, hb2⟩; have hb3 := hb1.trans (hb2.mono hb1.size)) | (go_at_call 11; refine (NUM w2 hb3).mono ?_; rintro e w4 ⟨rfl, hb4⟩))
      go_ret
      exact ⟨rfl, hb3.trans (hb4.mono hb3.size)⟩
  have lb : nb ≤ 300 := by omega
  have lt : nt ≤ 300 := by omega
  have g3 : ¬ (300 : Int) < nb := by omega
  have g4 : ¬ (300 : Int) < nt := by omega
  have HLB := Lib.hid (show base.length ≤ 300 ∧ target.length ≤ 300 from ⟨by rw [← HEN.out]; exact lb, by rw [← HET.out]; exact lt⟩)
  clear h1 h2 h3
  have hm : Tryd.prog.follows .mixedOrders = true := by kernel_rfl
  obtain ⟨d, hd⟩ : ∃ d, d = Dl.mk base target := ⟨_, rfl⟩
  have HD := Lib.hid hd
  have HBD := Lib.hid (show Sha.Byte d by rw [hd]; exact Dl.mem_mk HLB.out.1 HLB.out.2 HBT.out)
  have HAP := Lib.hid (show Dl.applyP base d = .ok target by rw [hd]; exact Dl.mk_back base target HLB.out.1 HLB.out.2)
  clear hd
  go_enter Tryd.func4, Tryd.ntmps4
  go_wp2_with (go_at_call 7; refine AL.mono ?_; rintro e w1 ⟨rfl, hb1⟩; refine pause ?_)
  unfold Paused
  have H1 := Lib.hid hb1
  clear hb1 AL
  go_wp2_with (go_at_call 16; refine pause ?_)
  unfold Paused
  refine (dmake_any _ _ base target w1 (HB.out.below H1.out (Nat.le_refl _)) (HT.out.below H1.out (Nat.le_refl _)) HBB.out HBT.out HLB.out.1 HLB.out.2 (HMX.out.below H1.out (Nat.le_refl _))).mono ?_
  rintro e w2 ⟨v5, rfl, hp5⟩
  rw [← HD.out] at hp5
  obtain ⟨A5, c5, rfl⟩ := hp5.len
  obtain ⟨l5, hl5⟩ : ∃ x, x = d.length := ⟨_, rfl⟩
  rw [← hl5] at hp5 ⊢
  have H2 := Lib.hid (H1.out.trans (hp5.bel.mono H1.out.size))
  have HR5 := Lib.hid hp5.rd
  clear hp5 hl5
  go_wp2_with (go_at_call 9; refine pause ?_)
  unfold Paused
  refine (dapply A A5 nb cb l5 c5 base d ea w2 (HB.out.below H2.out (Nat.le_refl _)) HR5.out HBD.out (ASents.of (HS.out.below H2.out (Nat.le_refl _)))).mono ?_
  intro e w6 hp6
  rw [HAP.out] at hp6
  obtain ⟨v7, rfl, hp7⟩ := hp6
  obtain ⟨A7, c7, rfl⟩ := hp7.len
  rw [← HET.out] at hp7 ⊢
  have H6 := Lib.hid (H2.out.trans (hp7.bel.mono H2.out.size))
  have HR56 := Lib.hid (HR5.out.below hp7.bel (Nat.le_refl _))
  have HR7 := Lib.hid hp7.rd
  clear hp7 HR5
  obtain ⟨T1, hT1⟩ : ∃ T, T = textOf d := ⟨_, rfl⟩
  obtain ⟨T2, hT2⟩ : ∃ T, T = textOf target := ⟨_, rfl⟩
  have HT1 := Lib.hid hT1
  have cD : ∀ w', Below w6.heap.size w6 w' → (convert 22 9 (.slice A5 l5 c5)).run Tryd.prog w' = .ok (.string T1) w' := fun w' h => by rw [hT1]; exact conv_rd (HR56.out.below h (Nat.le_refl _))
  have cB : ∀ w', Below w6.heap.size w6 w' → (convert 22 9 (.slice A7 nt c7)).run Tryd.prog w' = .ok (.string T2) w' := fun w' h => by rw [hT2]; exact conv_rd (HR7.out.below h (Nat.le_refl _))
  have cT : ∀ w', Below w6.heap.size w6 w' → (convert 22 9 (.slice A2 nt ct)).run Tryd.prog w' = .ok (.string T2) w' := fun w' h => by rw [hT2]; exact conv_rd (HT.out.below (H6.out.trans (h.mono H6.out.size)) (Nat.le_refl _))
  have h60 : Below w6.heap.size w6 w6.drew := below_drewN (Below.refl _ w6) 1
  have RM := rmake_any A A2 nb cb nt ct base target w6.drew (HB.out.below (H6.out.trans (h60.mono H6.out.size)) (Nat.le_refl _)) (HT.out.below (H6.out.trans (h60.mono H6.out.size)) (Nat.le_refl _)) HBB.out HBT.out lb lt
  rw [← HD.out] at RM
  clear hT1 hT2 lb lt
  go_wp2
  refine wp_region_held (S := fun w' => Below w6.heap.size w6 w') hm ?_
  change wpAnyH _ _ _ _ _ _ _ _ w6.drew
  refine wpAnyH_take (i := 0) (v := ?_) rfl (by kernel_rfl) (by kernel_rfl) (by kernel_rfl) (fun _ _ _ h => h) (Or.inl ⟨by rfl, ?_⟩) h60 ?_
  rotate_left
  · intro w' hw; go_simp; with_reducible rfl
  try simp only [Act.put, List.getElem_toArray, List.getElem_cons_zero, List.setIfInBounds_toArray, List.set_cons_zero, List.set_cons_succ]
  refine wpAnyH_take (i := 1) (v := ?_) rfl (by kernel_rfl) (by kernel_rfl) (by kernel_rfl) (fun _ _ _ h => h) (Or.inl ⟨by rfl, ?_⟩) h60 ?_
  rotate_left
  · intro w' hw; go_simp; with_reducible rfl
  try simp only [Act.put, List.getElem_toArray, List.getElem_cons_zero, List.getElem_cons_succ, List.setIfInBounds_toArray, List.set_cons_zero, List.set_cons_succ]
  refine wpAnyH_take (i := 2) (v := ?_) rfl (by kernel_rfl) (by kernel_rfl) (by kernel_rfl) (fun _ _ _ h => h) (Or.inl ⟨by rfl, ?_⟩) h60 ?_
  rotate_left
  · intro w' hw; go_simp; with_reducible rfl
  try simp only [Act.put, List.getElem_toArray, List.getElem_cons_zero, List.getElem_cons_succ, List.setIfInBounds_toArray, List.set_cons_zero, List.set_cons_succ]
  refine wpAnyH_take (i := 3) (v := ?_) rfl (by kernel_rfl) (by kernel_rfl) (by kernel_rfl) (fun _ _ _ h => h) (Or.inl ⟨by rfl, ?_⟩) h60 ?_
  rotate_left
  · intro w' hw; go_simp; with_reducible rfl
  try simp only [Act.put, List.getElem_toArray, List.getElem_cons_zero, List.getElem_cons_succ, List.setIfInBounds_toArray, List.set_cons_zero, List.set_cons_succ]
  refine wpAnyH_take (i := 4) (v := ?_) rfl (by kernel_rfl) (by kernel_rfl) (by kernel_rfl) (fun _ _ _ h => h) (Or.inl ⟨by rfl, ?_⟩) h60 ?_
  rotate_left
  · intro w' hw; go_simp; with_reducible rfl
  try simp only [Act.put, List.getElem_toArray, List.getElem_cons_zero, List.getElem_cons_succ, List.setIfInBounds_toArray, List.set_cons_zero, List.set_cons_succ]
  refine wpAnyH_take (i := 5) (v := ?_) rfl (by kernel_rfl) (by kernel_rfl) (by kernel_rfl) (fun _ _ _ h => h) (Or.inl ⟨by rfl, ?_⟩) h60 ?_
  rotate_left
  · intro w' hw; go_simp; with_reducible rfl
  try simp only [Act.put, List.getElem_toArray, List.getElem_cons_zero, List.getElem_cons_succ, List.setIfInBounds_toArray, List.set_cons_zero, List.set_cons_succ]
  refine wpAnyH_take (i := 6) (v := ?_) rfl (by kernel_rfl) (by kernel_rfl) (by kernel_rfl) (fun _ _ _ h => h) (Or.inl ⟨by rfl, ?_⟩) h60 ?_
  rotate_left
  · intro w' hw; go_simp; with_reducible rfl
  try simp only [Act.put, List.getElem_toArray, List.getElem_cons_zero, List.getElem_cons_succ, List.setIfInBounds_toArray, List.set_cons_zero, List.set_cons_succ]
  refine all_one (i := 7) (by kernel_rfl) rfl (by rfl) (fun K hK => ?_)
  go_simp
  refine RM.mono ?_
  rintro e w8 ⟨v8, rfl, hp8⟩
  have h68 : Below w6.heap.size w6 w8 := h60.trans (hp8.bel.mono h60.size)
  have q8 : (convert 22 9 v8).run Tryd.prog w8 = .ok (.string T1) w8 := by rw [HT1.out]; exact conv_rd hp8.rd
  refine hK _ _ h68 ?_
  try simp only [Act.put, List.getElem_toArray, List.getElem_cons_zero, List.getElem_cons_succ, List.setIfInBounds_toArray, List.set_cons_zero, List.set_cons_succ]
  obtain ⟨A8, c8, rfl⟩ := hp8.len
  refine all_one (i := 8) (by kernel_rfl) rfl (by rfl) (fun K hK => ?_)
  go_simp
  refine hK _ _ h68 ?_
  try simp only [Act.put, List.getElem_toArray, List.getElem_cons_zero, List.getElem_cons_succ, List.setIfInBounds_toArray, List.set_cons_zero, List.set_cons_succ]
  refine wpAnyH_take (i := 9) (v := ?_) rfl (by kernel_rfl) (by kernel_rfl) (by kernel_rfl) (fun _ _ _ h => h) (Or.inl ⟨by rfl, ?_⟩) h68 ?_
  rotate_left
  · intro w' hw; go_simp; with_reducible rfl
  try simp only [Act.put, List.getElem_toArray, List.getElem_cons_zero, List.getElem_cons_succ, List.setIfInBounds_toArray, List.set_cons_zero, List.set_cons_succ]
  refine wpAnyH_take (i := 10) (v := ?_) rfl (by kernel_rfl) (by kernel_rfl) (by kernel_rfl) (fun _ _ _ h => h) (Or.inl ⟨by rfl, ?_⟩) h68 ?_
  rotate_left
  · intro w' hw; go_simp; with_reducible rfl
  try simp only [Act.put, List.getElem_toArray, List.getElem_cons_zero, List.getElem_cons_succ, List.setIfInBounds_toArray, List.set_cons_zero, List.set_cons_succ]
  refine wpAnyH_take (i := 11) (v := ?_) rfl (by kernel_rfl) (by kernel_rfl) (by kernel_rfl) (fun _ _ _ h => h) (Or.inl ⟨by rfl, ?_⟩) h68 ?_
  rotate_left
  · intro w' hw; go_simp; with_reducible rfl
  try simp only [Act.put, List.getElem_toArray, List.getElem_cons_zero, List.getElem_cons_succ, List.setIfInBounds_toArray, List.set_cons_zero, List.set_cons_succ]
  refine wpAnyH_take (i := 12) (v := ?_) rfl (by kernel_rfl) (by kernel_rfl) (by kernel_rfl) (fun _ _ _ h => h) (Or.inl ⟨by rfl, ?_⟩) h68 ?_
  rotate_left
  · intro w' hw; go_simp; with_reducible rfl
  try simp only [Act.put, List.getElem_toArray, List.getElem_cons_zero, List.getElem_cons_succ, List.setIfInBounds_toArray, List.set_cons_zero, List.set_cons_succ]
  refine wpAnyH_take (i := 13) (v := ?_) rfl (by kernel_rfl) (by kernel_rfl) (by kernel_rfl) (fun _ _ _ h => h) (Or.inl ⟨by rfl, ?_⟩) h68 ?_
  rotate_left
  · intro w' hw; go_simp; with_reducible rfl
  try simp only [Act.put, List.getElem_toArray, List.getElem_cons_zero, List.getElem_cons_succ, List.setIfInBounds_toArray, List.set_cons_zero, List.set_cons_succ]
  refine wpAnyH_take (i := 14) (v := ?_) rfl (by kernel_rfl) (by kernel_rfl) (by kernel_rfl) (fun _ _ _ h => h) (Or.inl ⟨by rfl, ?_⟩) h68 ?_
  rotate_left
  · intro w' hw; go_simp; with_reducible rfl
  try simp only [Act.put, List.getElem_toArray, List.getElem_cons_zero, List.getElem_cons_succ, List.setIfInBounds_toArray, List.set_cons_zero, List.set_cons_succ]
  refine wpAnyH_take (i := 15) (v := ?_) rfl (by kernel_rfl) (by kernel_rfl) (by kernel_rfl) (fun _ _ _ h => h) (Or.inl ⟨by rfl, ?_⟩) h68 ?_
  rotate_left
  · intro w' hw; go_simp; with_reducible rfl
  try simp only [Act.put, List.getElem_toArray, List.getElem_cons_zero, List.getElem_cons_succ, List.setIfInBounds_toArray, List.set_cons_zero, List.set_cons_succ]
  refine wpAnyH_take (i := 16) (v := ?_) rfl (by kernel_rfl) (by kernel_rfl) (by kernel_rfl) (fun _ _ _ h => h) (Or.inl ⟨by rfl, ?_⟩) h68 ?_
  rotate_left
  · intro w' hw; go_simp; with_reducible rfl
  try simp only [Act.put, List.getElem_toArray, List.getElem_cons_zero, List.getElem_cons_succ, List.setIfInBounds_toArray, List.set_cons_zero, List.set_cons_succ]
  refine wpAnyH_take (i := 17) (v := ?_) rfl (by kernel_rfl) (by kernel_rfl) (by kernel_rfl) (fun _ _ _ h => h) (Or.inl ⟨by rfl, ?_⟩) h68 ?_
  rotate_left
  · intro w' hw; go_simp; with_reducible rfl
  try simp only [Act.put, List.getElem_toArray, List.getElem_cons_zero, List.getElem_cons_succ, List.setIfInBounds_toArray, List.set_cons_zero, List.set_cons_succ]
  refine wpAnyH_take (i := 18) (v := ?_) rfl (by kernel_rfl) (by kernel_rfl) (by kernel_rfl) (fun _ _ _ h => h) (Or.inl ⟨by rfl, ?_⟩) h68 ?_
  rotate_left
  · intro w' hw; go_simp; with_reducible rfl
  try simp only [Act.put, List.getElem_toArray, List.getElem_cons_zero, List.getElem_cons_succ, List.setIfInBounds_toArray, List.set_cons_zero, List.set_cons_succ]
  refine wpAnyH_take (i := 19) (v := ?_) rfl (by kernel_rfl) (by kernel_rfl) (by kernel_rfl) (fun _ _ _ h => h) (Or.inl ⟨by rfl, ?_⟩) h68 ?_
  rotate_left
  · intro w' hw; go_simp; with_reducible rfl
  try simp only [Act.put, List.getElem_toArray, List.getElem_cons_zero, List.getElem_cons_succ, List.setIfInBounds_toArray, List.set_cons_zero, List.set_cons_succ]
  refine wpAnyH_take (i := 20) (v := ?_) rfl (by kernel_rfl) (by kernel_rfl) (by kernel_rfl) (fun _ _ _ h => h) (Or.inl ⟨by rfl, ?_⟩) h68 ?_
  rotate_left
  · intro w' hw; go_simp; with_reducible rfl
  try simp only [Act.put, List.getElem_toArray, List.getElem_cons_zero, List.getElem_cons_succ, List.setIfInBounds_toArray, List.set_cons_zero, List.set_cons_succ]
  refine wpAnyH_take (i := 21) (v := ?_) rfl (by kernel_rfl) (by kernel_rfl) (by kernel_rfl) (fun _ _ _ h => h) (Or.inl ⟨by rfl, ?_⟩) h68 ?_
  rotate_left
  · intro w' hw; go_simp; with_reducible rfl
  try simp only [Act.put, List.getElem_toArray, List.getElem_cons_zero, List.getElem_cons_succ, List.setIfInBounds_toArray, List.set_cons_zero, List.set_cons_succ]
  refine wpAnyH_take (i := 22) (v := ?_) rfl (by kernel_rfl) (by kernel_rfl) (by kernel_rfl) (fun _ _ _ h => h) (Or.inl ⟨by rfl, ?_⟩) h68 ?_
  rotate_left
  · intro w' hw; go_simp; with_reducible rfl
  try simp only [Act.put, List.getElem_toArray, List.getElem_cons_zero, List.getElem_cons_succ, List.setIfInBounds_toArray, List.set_cons_zero, List.set_cons_succ]
  refine wpAnyH_done (by kernel_rfl) ?_ _
  have HE := Lib.hid (H6.out.trans (h68.mono H6.out.size))
  clear hp8 h68 q8 RM h60
  go_wp2
  go_ret
  exact ⟨rfl, HE.out⟩
end Go.Proofs.YthagldpgibpbdaaDoor
