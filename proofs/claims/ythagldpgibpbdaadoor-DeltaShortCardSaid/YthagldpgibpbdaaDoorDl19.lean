/- The law DeltaShort. -/
import Derived.Test.YthagldpgibpbdaaDoorDl18
namespace Go.Proofs.YthagldpgibpbdaaDoor
open Go Go.RowKit Go.Shelf
theorem w64 {x : Int} (h0 : 0 ≤ x) (h1 : x ≤ 1000000) : wrap64 x = x := IntWalk.wrap64_in _ (by omega)
theorem short_nums {nb nt n1 n2 q1 k2 : Nat} (f1 : 1 ≤ q1) (f2 : n1 ≤ 4 + 3 * (nb / 127 + 1) + 4) (f3 : k2 ≤ nt) (f4 : n2 ≤ 4 + 2 * nt) (f6 : nb ≤ 300) (f7 : nt ≤ 300) :
    ∃ nq : Nat, (nb : Int) / 127 = (nq : Int) ∧ (nb : Int).tdiv 127 = (nq : Int) ∧ wrap64 ((nq : Int) + 1) = (nq : Int) + 1 ∧ wrap64 (3 * ((nq : Int) + 1)) = 3 * ((nq : Int) + 1) ∧ wrap64 (4 + 3 * ((nq : Int) + 1)) = 4 + 3 * ((nq : Int) + 1) ∧
      wrap64 (4 + 3 * ((nq : Int) + 1) + 4) = 4 + 3 * ((nq : Int) + 1) + 4 ∧ wrap64 (2 * (nt : Int)) = 2 * (nt : Int) ∧ wrap64 (4 + 2 * (nt : Int)) = 4 + 2 * (nt : Int) ∧
      (1 : Int) ≤ (q1 : Int) ∧ (n1 : Int) ≤ 4 + 3 * ((nq : Int) + 1) + 4 ∧ (k2 : Int) ≤ (nt : Int) ∧ (n2 : Int) ≤ 4 + 2 * (nt : Int) := by
  have z0 : nb / 127 ≤ 2 := by omega
  have e0 : (nb : Int) / 127 = ((nb / 127 : Nat) : Int) := by omega
  refine ⟨nb / 127, e0, by rw [Int.tdiv_eq_ediv_of_nonneg (by omega)]; exact e0, ?_⟩
  generalize nb / 127 = q at *
  clear e0
  exact ⟨w64 (by omega) (by omega), w64 (by omega) (by omega), w64 (by omega) (by omega), w64 (by omega) (by omega), w64 (by omega) (by omega), w64 (by omega) (by omega), by omega, by omega, by omega, by omega⟩
set_option maxRecDepth 100000 in
set_option maxHeartbeats 1000000 in
theorem dshort_any (A A2 : Option Addr) (nb cb nt ct : Nat) (base target : List Nat) (ea : Nat → Addr) (w : World) (hB : Rd w (.slice A nb cb) base) (hT : Rd w (.slice A2 nt ct) target) (bb : Sha.Byte base) (bt : Sha.Byte target) (hS : SSents w ea) (hm : MX w) :
    Calls Tryd.prog 5 #[.slice A nb cb, .slice A2 nt ct] w fun e w' => e = .returned (.bool true) ∧ Below w.heap.size w w' := by
  have en : nb = base.length := by obtain ⟨_, _, hv, _⟩ := hB; injection hv
  have et : nt = target.length := by obtain ⟨_, _, hv, _⟩ := hT; injection hv
  have AL := dalive_any w hm
  by_cases h1 : 300 < nb
  · have g1 : (300 : Int) < nb := by omega
    clear hB hT en et bb bt hS hm
    go_enter Tryd.func5, Tryd.ntmps5
    go_wp2_with (go_at_call 7; refine AL.mono ?_; rintro e w1 ⟨rfl, hb1⟩)
    go_ret
    exact ⟨rfl, hb1⟩
  by_cases h2 : 300 < nt
  · have g1 : ¬ (300 : Int) < nb := by omega
    have g2 : (300 : Int) < nt := by omega
    clear hB hT en et bb bt hS hm
    go_enter Tryd.func5, Tryd.ntmps5
    go_wp2_with (go_at_call 7; refine AL.mono ?_; rintro e w1 ⟨rfl, hb1⟩)
    go_ret
    exact ⟨rfl, hb1⟩
  by_cases h3 : nb < 4
  · have g1 : ¬ (300 : Int) < nb := by omega
    have g2 : ¬ (300 : Int) < nt := by omega
    have g3 : (nb : Int) < 4 := by omega
    clear hB hT en et bb bt hS hm
    go_enter Tryd.func5, Tryd.ntmps5
    go_wp2_with (go_at_call 7; refine AL.mono ?_; rintro e w1 ⟨rfl, hb1⟩)
    go_ret
    exact ⟨rfl, hb1⟩
  have g1 : ¬ (300 : Int) < nb := by omega
  have g2 : ¬ (300 : Int) < nt := by omega
  have g3 : ¬ (nb : Int) < 4 := by omega
  have CM1 := fun (w' : World) (h : Below w.heap.size w w') => dmake_any _ _ base base w' (hB.below h (Nat.le_refl _)) (hB.below h (Nat.le_refl _)) bb bb (by omega) (by omega) (hm.below h (Nat.le_refl _))
  have CM2 := fun (w' : World) (h : Below w.heap.size w w') => dmake_any _ _ base target w' (hB.below h (Nat.le_refl _)) (hT.below h (Nat.le_refl _)) bb bt (by omega) (by omega) (hm.below h (Nat.le_refl _))
  have hself := Dl.mk_self base (by omega)
  obtain ⟨k1, hc1, _, hl1⟩ := Dl.mk_count base base
  obtain ⟨k2, hc2, hk2, hl2⟩ := Dl.mk_count base target
  have by1 := Dl.mem_mk (base := base) (target := base) (by omega) (by omega) bb
  have by2 := Dl.mem_mk (base := base) (target := target) (by omega) (by omega) bt
  have sp1 : Dl.stepsP (Dl.mk base base) = ((Dl.cps base base 0).length, k1, none) := by unfold Dl.stepsP; rw [if_neg (by rw [Dl.mk_len]; omega)]; exact Dl.cnt_count _ _ _ _ hc1
  have sp2 : Dl.stepsP (Dl.mk base target) = ((Dl.cps base target 0).length, k2, none) := by unfold Dl.stepsP; rw [if_neg (by rw [Dl.mk_len]; omega)]; exact Dl.cnt_count _ _ _ _ hc2
  have l41 : 4 ≤ (Dl.mk base base).length := by rw [Dl.mk_len]; omega
  have l42 : 4 ≤ (Dl.mk base target).length := by rw [Dl.mk_len]; omega
  have ST := fun (n c : Nat) (A : Option Addr) (d : List Nat) (w' : World) (h : Below w.heap.size w w') (hr : Rd w' (.slice A n c) d) (hb : Sha.Byte d) (h4 : 4 ≤ d.length) (hl : d.length ≤ 1000000) => steps_count A n c d ea w' hr hb (hS.below h (Nat.le_refl _)) h4 hl
  obtain ⟨q1, hq1⟩ : ∃ q, q = (Dl.cps base base 0).length := ⟨_, rfl⟩
  obtain ⟨q2, hq2⟩ : ∃ q, q = (Dl.cps base target 0).length := ⟨_, rfl⟩
  obtain ⟨d1, hd1⟩ : ∃ d, d = Dl.mk base base := ⟨_, rfl⟩
  obtain ⟨d2, hd2⟩ : ∃ d, d = Dl.mk base target := ⟨_, rfl⟩
  rw [← hq1] at sp1 hself
  rw [← hq2] at sp2
  rw [← hd1] at CM1 sp1 hself by1 hl1 l41
  rw [← hd2] at CM2 sp2 by2 hl2 l42
  rw [← et] at hl2 hk2
  rw [← en] at hself hl1
  clear hc1 hc2 hq1 hq2 hd1 hd2 hB hT en et bb bt hS hm
  obtain ⟨n1, hn1⟩ : ∃ n, n = d1.length := ⟨_, rfl⟩
  obtain ⟨n2, hn2⟩ : ∃ n, n = d2.length := ⟨_, rfl⟩
  rw [← hn1] at hself hl1 l41
  rw [← hn2] at hl2 l42
  have ST1 := fun c A w' h hr => ST n1 c A d1 w' h hr by1 (by omega) (by omega)
  have ST2 := fun c A w' h hr => ST n2 c A d2 w' h hr by2 (by omega) (by omega)
  rw [sp1] at ST1
  rw [sp2] at ST2
  have HN1 := Lib.hid hn1
  have HN2 := Lib.hid hn2
  have HF := Lib.hid (show (1 ≤ q1 ∧ n1 ≤ 4 + 3 * (nb / 127 + 1) + 4) ∧ k2 ≤ nt ∧ n2 ≤ 4 + 2 * nt ∧ 4 ≤ nb ∧ nb ≤ 300 ∧ nt ≤ 300 from ⟨hself, hk2, hl2, by omega, by omega, by omega⟩)
  clear hn1 hn2 sp1 sp2 hself hk2 hl1 hl2 l41 l42 by1 by2 ST h1 h2 h3
  go_enter Tryd.func5, Tryd.ntmps5
  go_wp2_with (go_at_call 7; refine AL.mono ?_; rintro e w1 ⟨rfl, hb1⟩)
  refine (CM1 w1 hb1).mono ?_
  rintro e w2 ⟨v, rfl, hP1⟩
  obtain ⟨A5, c5, rfl⟩ := hP1.len
  rw [← HN1.out] at hP1 ⊢
  have hb2 := hb1.trans (hP1.bel.mono hb1.size)
  have hr1 := hP1.rd
  go_wp2_with (go_at_call 16; refine (CM2 w2 hb2).mono ?_; rintro e w3 ⟨v, rfl, hP2⟩; refine pause ?_)
  unfold Paused
  obtain ⟨A6, c6, rfl⟩ := hP2.len
  rw [← HN2.out] at hP2 ⊢
  have hb3 := hb2.trans (hP2.bel.mono hb2.size)
  have hr2 := hP2.rd
  have hr1' := hr1.below hP2.bel (Nat.le_refl _)
  have S1 := ST1 c5 A5 w3 hb3 hr1'
  clear hP1 hP2 hr1 hr1' CM1 CM2 AL
  go_wp2_with (go_at_call 13; refine S1.mono ?_; rintro e w4 ⟨rfl, hb4⟩; refine pause ?_)
  unfold Paused
  have hb5 := hb3.trans (hb4.mono hb3.size)
  have S2 := ST2 c6 A6 w4 hb5 (hr2.below hb4 (Nat.le_refl _))
  clear S1 hr2
  go_wp2_with (go_at_call 13; refine S2.mono ?_; rintro e w5 ⟨rfl, hb6⟩; refine pause ?_)
  unfold Paused
  have hb7 := hb5.trans (hb6.mono hb5.size)
  obtain ⟨⟨f1, f2⟩, f3, f4, f5, f6, f7⟩ := HF.out
  obtain ⟨nq, e0, e00, e1, e2, e3, e4, e5, e6, y1, y2, y3, y4⟩ := short_nums f1 f2 f3 f4 f6 f7
  clear f1 f2 f3 f4 f5 f6 f7 HF S2 ST1 ST2 g1 g2 g3 hb1 hb2 hb3 hb4 hb5 hb6
  go_wp2
  trace_state
  go_ret
  exact ⟨rfl, hb7⟩
end Go.Proofs.YthagldpgibpbdaaDoor
