/- Layer 5: a log is opened that stands in a half. -/
import Derived.Test.YtdokojlgcplefaaDoorMHv14
namespace Go.Proofs.YtdokojlgcplefaaDoor
open Go Go.RowKit
set_option maxRecDepth 100000 in
set_option maxHeartbeats 1000000 in
theorem open_h0 {B l d z k : Nat} {S : Dk.D} (a : Nat → Addr) (w0 w : World) (hL : LogAt B w l d z 0 0 (.slice none 0 0) 0 false) (hD : DkX B w d S k) (hu : Hv.Up S) (hz : 2 ≤ z) (hi : z + z ≤ S.size) (hk : k + 100000 < 1000000) (hE : Env B a w0 w) (hd : Nat → Nat × Nat) (h0 : Hv.headM (Dk.seen S 0) = hd 0) (h1 : Hv.headM (Dk.seen S z) = hd 1) (n : Nat) (hp : Hv.pick hd 2 = (0, n)) (hn0 : 1 ≤ n) (_htop : n ≤ Hv.top) (T : Dk.D) (hT : T = S) (ls : List (List Nat)) (hl : ls.length ≤ 100000) (hle : ∀ i, (ls.getD i []).length ≤ 3000) (hps : ∀ i, i ≤ ls.length → Hv.pos ls i ≤ 100000) (m : Nat) (hm : m = Hv.pos ls ls.length) (hmz : m ≤ z) (hr : Reads T 0 z n ls) :
  Calls Tryd.prog 21 #[.pointer (some ⟨l, 0, none⟩)] w fun e w' => e = .returned (.tuple #[]) ∧ (∃ v, LogAt B w' l d z 0 n v m false ∧ (∃ us, Recs B w' v us ls)) ∧ DkX B w' d (Hv.tailS 0 m (z - m) T) (k + 2 * z + 10) ∧ LFr B l w w' := by
 have HSZ : Hid (S.size ≤ 4096) := Lib.hid hD.ok.size
 have HR := Lib.hid hL.range
 have HLB : Hid (B ≤ l) := Lib.hid hL.low
 have HL := Lib.hid hL
 have HD := Lib.hid hD
 have HE := Lib.hid hE
 have HU := Lib.hid hu
 have HP := Lib.hid hp
 have hq0 := pick_half0 d z
 have hq1 := pick_half1 d z
 have HC0 : Hid (∀ w', DkX B w' d S k → Env B a w0 w' → Calls Tryd.prog 34 #[halfV d 0 z] w' fun e w'' => e = .returned (.agg #[.int .i64 ((hd 0).1 : Nat), .int .i64 ((hd 0).2 : Nat)]) ∧ Below w'.heap.size w' w'') := Lib.hid (fun w' h e => by rw [← h0]; exact xhead_any 0 z a w' h hu.1 (by omega) e.s e.t)
 have HC1 : Hid (∀ w', DkX B w' d S k → Env B a w0 w' → Calls Tryd.prog 34 #[halfV d z z] w' fun e w'' => e = .returned (.agg #[.int .i64 ((hd 1).1 : Nat), .int .i64 ((hd 1).2 : Nat)]) ∧ Below w'.heap.size w' w'') := Lib.hid (fun w' h e => by rw [← h1]; exact xhead_any z z a w' h hu.1 (by omega) e.s e.t)
 have HT := Lib.hid hT
 have HH0 := Lib.hid h0
 have HH1 := Lib.hid h1
 have HRD := Lib.hid hr
 have HPS := Lib.hid hps
 have HLE := Lib.hid hle
 have HM := Lib.hid hm
 clear hL hD hE hu hp h0 h1 hT hr hps hle hm
 unfold halfV at HC0 HC1 hq0 hq1
 go_enter Tryd.func21, Tryd.ntmps21
 go_wp2_with (refine wpList_load_mid rfl 57 (.tmp 8) rfl l 0 rfl (halvesC d z) _ HR.out Tryd.underlying57 rfl (by kernel_rfl) ?_; unfold halvesC)
 go_loopw [10] (fun j wr => ∃ i : Nat, i ≤ 2 ∧ j = .int .i64 i ∧ Hid (LogAt B wr l d z (Hv.pick hd i).1 (Hv.pick hd i).2 (.slice none 0 0) 0 false) ∧ Hid (DkX B wr d S k) ∧ Hid (LFr B l w wr)) (fun j _ => 2 - (intOf j).toNat)
 case atStart => exact ⟨0, Nat.zero_le _, rfl, HL, HD, Lib.hid (LFr.below (Below.refl _ _))⟩
 case round =>
  obtain ⟨i, hi2, rfl, HLi, HDi, HFi⟩ := hrel
  by_cases hlt : i < 2
  ·obtain rfl | rfl : i = 0 ∨ i = 1 := by omega
   ·obtain ⟨s, hs⟩ : ∃ s, s = (hd 0).1 := ⟨_, rfl⟩
    obtain ⟨t, ht⟩ : ∃ t, t = (hd 0).2 := ⟨_, rfl⟩
    obtain ⟨u0, hu0⟩ : ∃ u0, u0 = (Hv.pick hd 0).1 := ⟨_, rfl⟩
    obtain ⟨n0, hn0'⟩ : ∃ n0, n0 = (Hv.pick hd 0).2 := ⟨_, rfl⟩
    rw [← hu0, ← hn0'] at HLi
    have HPK : Hid (Hv.pick hd 1 = if t = 2 ∧ n0 < s then (0, s) else (u0, n0)) := Lib.hid (by rw [hs, ht, hu0, hn0']; rfl)
    have HB0 : Hid (Below wr.heap.size wr (wr.alloc (.cells #[.pointer (some ⟨d, 0, none⟩), .int .i64 (0 : Nat), .int .i64 (z : Nat)] 56))) := Lib.hid (below_al _ _)
    have CH := HC0.out _ (HDi.out.below HB0.out) ((HE.out.lfr HFi.out).below HB0.out)
    rw [← hs, ← ht] at CH
    clear hs ht hu0 hn0' hlt hi2
    go_wp2_with fail
    go_at_call 34
    refine CH.mono ?_
    rintro e w1 ⟨rfl, hb1⟩
    clear CH
    go_wp2_with fail
    obtain ⟨w2, hw2⟩ : ∃ w2, w2 = w1.alloc (.cells #[.int .i64 (s : Int), .int .i64 (t : Int)] 74) := ⟨_, rfl⟩
    rw [← hw2]
    have HG2 : Hid (Blk w2 w1.heap.size 74 #[.int .i64 (s : Int), .int .i64 (t : Int)]) := Lib.hid (by rw [hw2]; exact Blk.new _ _ _)
    have HB2 : Hid (Below wr.heap.size wr w2) := Lib.hid (by rw [hw2]; exact (below_then HB0.out hb1).trans ((Below.refl _ _).alloc (below_then HB0.out hb1).size _))
    have HL2 : Hid (LogAt B w2 l d z u0 n0 (.slice none 0 0) 0 false) := Lib.hid (HLi.out.below HB2.out)
    have p0 : w2.cell? ⟨w1.heap.size, 0, none⟩ = some (.int .i64 (s : Int)) := HG2.out.cell 0
    have p1 : w2.cell? ⟨w1.heap.size, 1, none⟩ = some (.int .i64 (t : Int)) := HG2.out.cell 1
    have p7 : w2.cell? ⟨l, 7, none⟩ = some (.int .i64 (n0 : Int)) := HL2.out.blk.cell 7
    have HIJ : Hid (True) := Lib.hid trivial
    obtain ⟨g2, hg2⟩ : ∃ g2, g2 = w1.heap.size := ⟨_, rfl⟩
    rw [← hg2] at HG2 p0 p1 ⊢
    clear hw2 hb1 hg2
    by_cases ht2 : t = 2
    ·subst ht2
     by_cases hns : n0 < s
     ·have i0 : (n0 : Int) < (s : Int) := by omega
      have e2 : ((2 : Nat) : Int) = 2 := rfl
      rw [e2] at p1
      go_quiet (fail)
      obtain ⟨w3, hw3⟩ : ∃ w3, w3 = w2.drewN nq := ⟨_, rfl⟩
      have HB3 : Hid (Below wr.heap.size wr w3) := Lib.hid (by rw [hw3]; exact below_drewN HB2.out _)
      have HG3 : Hid (Blk w3 g2 74 #[.int .i64 (s : Int), .int .i64 ((2 : Nat) : Int)]) := Lib.hid (by rw [hw3]; exact HG2.out)
      have HL3 : Hid (LogAt B w3 l d z u0 n0 (.slice none 0 0) 0 false) := Lib.hid (HLi.out.below HB3.out)
      rw [← hw3]
      clear hw3 p0 p1 p7
      go_wp2_with fail
      obtain ⟨w4, hw4⟩ : ∃ w4, w4 = w3.drew := ⟨_, rfl⟩
      have HB4 : Hid (Below wr.heap.size wr w4) := Lib.hid (by rw [hw4]; exact below_drewN HB3.out 1)
      have HG4 : Hid (Blk w4 g2 74 #[.int .i64 (s : Int), .int .i64 ((2 : Nat) : Int)]) := Lib.hid (by rw [hw4]; exact HG3.out)
      have HL4 : Hid (LogAt B w4 l d z u0 n0 (.slice none 0 0) 0 false) := Lib.hid (HLi.out.below HB4.out)
      have HS4 : Hid ((∃ u n, Blk w4 l 59 (logCells d z u n (.slice none 0 0) 0 false)) ∧ Blk w4 g2 74 #[.int .i64 (s : Int), .int .i64 ((2 : Nat) : Int)]) := Lib.hid ⟨⟨_, _, HL4.out.blk⟩, HG4.out⟩
      refine wp_region_held (S := (fun w' => (∃ u n, Blk w' l 59 (logCells d z u n (.slice none 0 0) 0 false)) ∧ Blk w' g2 74 #[.int .i64 (s : Int), .int .i64 ((2 : Nat) : Int)])) (by kernel_rfl) ?_
      change wpAnyH _ _ _ _ _ _ _ _ w3.drew
      rw [← hw4]
      clear hw4
      refine wpAnyH_take (i := 0) (v := ?_) rfl (by kernel_rfl) (by kernel_rfl) (by kernel_rfl) (fun _ _ _ h => h) (Or.inl ⟨by rfl, ?_⟩) (HS4.out) ?_
      rotate_left
      ·intro w _; go_simp; with_reducible rfl
      try simp only [Act.put, List.getElem_toArray, List.getElem_cons_zero, List.setIfInBounds_toArray, List.set_cons_zero, List.set_cons_succ]
      refine wpAnyH_take (i := 1) (v := ?_) rfl (by kernel_rfl) (by kernel_rfl) (by kernel_rfl) (fun _ _ _ h => h) (Or.inl ⟨by rfl, ?_⟩) (HS4.out) ?_
      rotate_left
      ·intro w _; go_simp; with_reducible rfl
      try simp only [Act.put, List.getElem_toArray, List.getElem_cons_zero, List.getElem_cons_succ, List.setIfInBounds_toArray, List.set_cons_zero, List.set_cons_succ]
      refine wpAnyH_take (i := 2) (v := ?_) rfl (by kernel_rfl) (by kernel_rfl) (by kernel_rfl) (fun _ _ _ h => h) (Or.inl ⟨by rfl, ?_⟩) (HS4.out) ?_
      rotate_left
      ·intro w _; go_simp; with_reducible rfl
      try simp only [Act.put, List.getElem_toArray, List.getElem_cons_zero, List.getElem_cons_succ, List.setIfInBounds_toArray, List.set_cons_zero, List.set_cons_succ]
      refine wpAnyH_take (i := 3) (v := ?_) rfl (by kernel_rfl) (by kernel_rfl) (by kernel_rfl) (fun _ _ _ h => h) (Or.inl ⟨by rfl, ?_⟩) (HS4.out) ?_
      rotate_left
      ·intro w _; go_simp; with_reducible rfl
      try simp only [Act.put, List.getElem_toArray, List.getElem_cons_zero, List.getElem_cons_succ, List.setIfInBounds_toArray, List.set_cons_zero, List.set_cons_succ]
      refine wpAnyH_take (i := 4) (v := ?_) rfl (by kernel_rfl) (by kernel_rfl) (by kernel_rfl) (fun _ _ _ h => h) (Or.inl ⟨by rfl, ?_⟩) (HS4.out) ?_
      rotate_left
      ·intro w' hS; have q0 := hS.2.cell 0; go_simp; with_reducible rfl
      try simp only [Act.put, List.getElem_toArray, List.getElem_cons_zero, List.getElem_cons_succ, List.setIfInBounds_toArray, List.set_cons_zero, List.set_cons_succ]
      refine wpAnyH_take (i := 5) (v := ?_) rfl (by kernel_rfl) (by kernel_rfl) (by kernel_rfl) (fun _ _ _ h => h) (Or.inl ⟨by rfl, ?_⟩) (HS4.out) ?_
      rotate_left
      ·intro w _; go_simp; with_reducible rfl
      try simp only [Act.put, List.getElem_toArray, List.getElem_cons_zero, List.getElem_cons_succ, List.setIfInBounds_toArray, List.set_cons_zero, List.set_cons_succ]
      refine wpAnyH_take (i := 6) (v := ?_) rfl (by kernel_rfl) (by kernel_rfl) (by kernel_rfl) (fun _ _ _ h => h) (Or.inl ⟨by rfl, ?_⟩) (HS4.out) ?_
      rotate_left
      ·intro w _; go_simp; with_reducible rfl
      try simp only [Act.put, List.getElem_toArray, List.getElem_cons_zero, List.getElem_cons_succ, List.setIfInBounds_toArray, List.set_cons_zero, List.set_cons_succ]
      have HNE : Hid (g2 ≠ l) := Lib.hid (blk_ne HG4.out HL4.out.blk (by decide))
      have q6 : w4.cell? ⟨l, 6, none⟩ = some (.int .i64 (u0 : Int)) := HL4.out.blk.cell 6
      have z6 : w4.frozen? ⟨l, 6, none⟩ = false := HL4.out.blk.frozen 6
      have q7 : w4.cell? ⟨l, 7, none⟩ = some (.int .i64 (n0 : Int)) := HL4.out.blk.cell 7
      have z7 : w4.frozen? ⟨l, 7, none⟩ = false := HL4.out.blk.frozen 7
      have k67 := HL4.out.blk.set_ 6 (.int .i64 0)
      have r7 : (w4.setCell ⟨l, 6, none⟩ (.int .i64 0)).cell? ⟨l, 7, none⟩ = some (.int .i64 (n0 : Int)) := k67.cell 7
      have y7 : (w4.setCell ⟨l, 6, none⟩ (.int .i64 0)).frozen? ⟨l, 7, none⟩ = false := k67.frozen 7
      have K1 : Hid (Blk ((w4.setCell ⟨l, 6, none⟩ (.int .i64 0)).setCell ⟨l, 7, none⟩ (.int .i64 (s : Int))) l 59 (logCells d z 0 s (.slice none 0 0) 0 false)) := Lib.hid (k67.set_ 7 (.int .i64 (s : Int)))
      have hne := HNE.out
      have S67 : Hid ((∃ u n, Blk (w4.setCell ⟨l, 6, none⟩ (.int .i64 0)) l 59 (logCells d z u n (.slice none 0 0) 0 false)) ∧ Blk (w4.setCell ⟨l, 6, none⟩ (.int .i64 0)) g2 74 #[.int .i64 (s : Int), .int .i64 ((2 : Nat) : Int)]) := Lib.hid ⟨⟨0, n0, k67⟩, HG4.out.far hne _⟩
      have S1 : Hid ((∃ u n, Blk ((w4.setCell ⟨l, 6, none⟩ (.int .i64 0)).setCell ⟨l, 7, none⟩ (.int .i64 (s : Int))) l 59 (logCells d z u n (.slice none 0 0) 0 false)) ∧ Blk ((w4.setCell ⟨l, 6, none⟩ (.int .i64 0)).setCell ⟨l, 7, none⟩ (.int .i64 (s : Int))) g2 74 #[.int .i64 (s : Int), .int .i64 ((2 : Nat) : Int)]) := Lib.hid ⟨⟨_, _, K1.out⟩, S67.out.2.far hne _⟩
      have HF4 := Lib.hid (HFi.out.trans (LFr.below HB4.out))
      have HP2 : Hid (Hv.pick hd 1 = (0, s)) := Lib.hid (by rw [HPK.out, if_pos (by simpa using hns)])
      clear k67 hne hns i0 e2
      refine all_one (i := 7) (by kernel_rfl) rfl (by rfl) (fun K hK => ?_)
      go_simp
      refine hK _ _ S67.out ?_; clear hK K
      try simp only [Act.put, List.getElem_toArray, List.getElem_cons_zero, List.getElem_cons_succ, List.setIfInBounds_toArray, List.set_cons_zero, List.set_cons_succ]
      refine wpAnyH_take (i := 8) (v := ?_) rfl (by kernel_rfl) (by kernel_rfl) (by kernel_rfl) (fun _ _ _ h => h) (Or.inl ⟨by rfl, ?_⟩) (S67.out) ?_
      rotate_left
      ·intro w _; go_simp; with_reducible rfl
      try simp only [Act.put, List.getElem_toArray, List.getElem_cons_zero, List.getElem_cons_succ, List.setIfInBounds_toArray, List.set_cons_zero, List.set_cons_succ]
      refine wpAnyH_take (i := 9) (v := ?_) rfl (by kernel_rfl) (by kernel_rfl) (by kernel_rfl) (fun _ _ _ h => h) (Or.inl ⟨by rfl, ?_⟩) (S67.out) ?_
      rotate_left
      ·intro w _; go_simp; with_reducible rfl
      try simp only [Act.put, List.getElem_toArray, List.getElem_cons_zero, List.getElem_cons_succ, List.setIfInBounds_toArray, List.set_cons_zero, List.set_cons_succ]
      refine all_one (i := 10) (by kernel_rfl) rfl (by rfl) (fun K hK => ?_)
      go_simp
      refine hK _ _ S1.out ?_; clear hK K
      try simp only [Act.put, List.getElem_toArray, List.getElem_cons_zero, List.getElem_cons_succ, List.setIfInBounds_toArray, List.set_cons_zero, List.set_cons_succ]
      refine wpAnyH_done (by kernel_rfl) ?_ _
      go_wp2_with fail
      refine ⟨⟨1, by omega, rfl, by rw [HP2.out]; exact Lib.hid ⟨K1.out, HLB.out⟩, Lib.hid (dk_set2 (HDi.out.below HB4.out) HL4.out.blk _ _ _ _), Lib.hid ((HF4.out.trans (LFr.set HLB.out _ _)).trans (LFr.set HLB.out _ _))⟩, by simp [intOf]⟩
     ·have i0 : decide ((n0 : Int) < (s : Int)) = false := by simp; omega
      have i1 : decide (n0 < s) = false := by simp; omega
      have e2 : ((2 : Nat) : Int) = 2 := rfl
      rw [e2] at p1
      have HP2 : Hid (Hv.pick hd 1 = (u0, n0)) := Lib.hid (by rw [HPK.out, if_neg (by rintro ⟨_, h⟩; exact hns h)])
      clear hns
      go_quiet (fail)
      go_wp2_with fail
      exact ⟨⟨1, by omega, rfl, by rw [HP2.out]; exact Lib.hid (HLi.out.below (below_drewN HB2.out _)), Lib.hid (HDi.out.below (below_drewN HB2.out _)), Lib.hid (HFi.out.trans (LFr.below (below_drewN HB2.out _)))⟩, by simp [intOf]⟩
    ·have b0 : ((t : Int) == 2) = false := by simp; omega
     have HP2 : Hid (Hv.pick hd 1 = (u0, n0)) := Lib.hid (by rw [HPK.out, if_neg (by rintro ⟨h, _⟩; exact ht2 h)])
     clear ht2
     go_quiet (fail)
     go_wp2_with fail
     exact ⟨⟨1, by omega, rfl, by rw [HP2.out]; exact Lib.hid (HLi.out.below (below_drewN HB2.out _)), Lib.hid (HDi.out.below (below_drewN HB2.out _)), Lib.hid (HFi.out.trans (LFr.below (below_drewN HB2.out _)))⟩, by simp [intOf]⟩
   ·obtain ⟨s, hs⟩ : ∃ s, s = (hd 1).1 := ⟨_, rfl⟩
    obtain ⟨t, ht⟩ : ∃ t, t = (hd 1).2 := ⟨_, rfl⟩
    obtain ⟨u0, hu0⟩ : ∃ u0, u0 = (Hv.pick hd 1).1 := ⟨_, rfl⟩
    obtain ⟨n0, hn0'⟩ : ∃ n0, n0 = (Hv.pick hd 1).2 := ⟨_, rfl⟩
    rw [← hu0, ← hn0'] at HLi
    have HPK : Hid (Hv.pick hd 2 = if t = 2 ∧ n0 < s then (1, s) else (u0, n0)) := Lib.hid (by rw [hs, ht, hu0, hn0']; rfl)
    have HB0 : Hid (Below wr.heap.size wr (wr.alloc (.cells #[.pointer (some ⟨d, 0, none⟩), .int .i64 (z : Nat), .int .i64 (z : Nat)] 56))) := Lib.hid (below_al _ _)
    have CH := HC1.out _ (HDi.out.below HB0.out) ((HE.out.lfr HFi.out).below HB0.out)
    rw [← hs, ← ht] at CH
    clear hs ht hu0 hn0' hlt hi2
    go_wp2_with fail
    go_at_call 34
    refine CH.mono ?_
    rintro e w1 ⟨rfl, hb1⟩
    clear CH
    go_wp2_with fail
    obtain ⟨w2, hw2⟩ : ∃ w2, w2 = w1.alloc (.cells #[.int .i64 (s : Int), .int .i64 (t : Int)] 74) := ⟨_, rfl⟩
    rw [← hw2]
    have HG2 : Hid (Blk w2 w1.heap.size 74 #[.int .i64 (s : Int), .int .i64 (t : Int)]) := Lib.hid (by rw [hw2]; exact Blk.new _ _ _)
    have HB2 : Hid (Below wr.heap.size wr w2) := Lib.hid (by rw [hw2]; exact (below_then HB0.out hb1).trans ((Below.refl _ _).alloc (below_then HB0.out hb1).size _))
    have HL2 : Hid (LogAt B w2 l d z u0 n0 (.slice none 0 0) 0 false) := Lib.hid (HLi.out.below HB2.out)
    have p0 : w2.cell? ⟨w1.heap.size, 0, none⟩ = some (.int .i64 (s : Int)) := HG2.out.cell 0
    have p1 : w2.cell? ⟨w1.heap.size, 1, none⟩ = some (.int .i64 (t : Int)) := HG2.out.cell 1
    have p7 : w2.cell? ⟨l, 7, none⟩ = some (.int .i64 (n0 : Int)) := HL2.out.blk.cell 7
    have HIJ : Hid (True) := Lib.hid trivial
    obtain ⟨g2, hg2⟩ : ∃ g2, g2 = w1.heap.size := ⟨_, rfl⟩
    rw [← hg2] at HG2 p0 p1 ⊢
    clear hw2 hb1 hg2
    by_cases ht2 : t = 2
    ·subst ht2
     by_cases hns : n0 < s
     ·have i0 : (n0 : Int) < (s : Int) := by omega
      have e2 : ((2 : Nat) : Int) = 2 := rfl
      rw [e2] at p1
      go_quiet (fail)
      obtain ⟨w3, hw3⟩ : ∃ w3, w3 = w2.drewN nq := ⟨_, rfl⟩
      have HB3 : Hid (Below wr.heap.size wr w3) := Lib.hid (by rw [hw3]; exact below_drewN HB2.out _)
      have HG3 : Hid (Blk w3 g2 74 #[.int .i64 (s : Int), .int .i64 ((2 : Nat) : Int)]) := Lib.hid (by rw [hw3]; exact HG2.out)
      have HL3 : Hid (LogAt B w3 l d z u0 n0 (.slice none 0 0) 0 false) := Lib.hid (HLi.out.below HB3.out)
      rw [← hw3]
      clear hw3 p0 p1 p7
      go_wp2_with fail
      obtain ⟨w4, hw4⟩ : ∃ w4, w4 = w3.drew := ⟨_, rfl⟩
      have HB4 : Hid (Below wr.heap.size wr w4) := Lib.hid (by rw [hw4]; exact below_drewN HB3.out 1)
      have HG4 : Hid (Blk w4 g2 74 #[.int .i64 (s : Int), .int .i64 ((2 : Nat) : Int)]) := Lib.hid (by rw [hw4]; exact HG3.out)
      have HL4 : Hid (LogAt B w4 l d z u0 n0 (.slice none 0 0) 0 false) := Lib.hid (HLi.out.below HB4.out)
      have HS4 : Hid ((∃ u n, Blk w4 l 59 (logCells d z u n (.slice none 0 0) 0 false)) ∧ Blk w4 g2 74 #[.int .i64 (s : Int), .int .i64 ((2 : Nat) : Int)]) := Lib.hid ⟨⟨_, _, HL4.out.blk⟩, HG4.out⟩
      refine wp_region_held (S := (fun w' => (∃ u n, Blk w' l 59 (logCells d z u n (.slice none 0 0) 0 false)) ∧ Blk w' g2 74 #[.int .i64 (s : Int), .int .i64 ((2 : Nat) : Int)])) (by kernel_rfl) ?_
      change wpAnyH _ _ _ _ _ _ _ _ w3.drew
      rw [← hw4]
      clear hw4
      refine wpAnyH_take (i := 0) (v := ?_) rfl (by kernel_rfl) (by kernel_rfl) (by kernel_rfl) (fun _ _ _ h => h) (Or.inl ⟨by rfl, ?_⟩) (HS4.out) ?_
      rotate_left
      ·intro w _; go_simp; with_reducible rfl
      try simp only [Act.put, List.getElem_toArray, List.getElem_cons_zero, List.setIfInBounds_toArray, List.set_cons_zero, List.set_cons_succ]
      refine wpAnyH_take (i := 1) (v := ?_) rfl (by kernel_rfl) (by kernel_rfl) (by kernel_rfl) (fun _ _ _ h => h) (Or.inl ⟨by rfl, ?_⟩) (HS4.out) ?_
      rotate_left
      ·intro w _; go_simp; with_reducible rfl
      try simp only [Act.put, List.getElem_toArray, List.getElem_cons_zero, List.getElem_cons_succ, List.setIfInBounds_toArray, List.set_cons_zero, List.set_cons_succ]
      refine wpAnyH_take (i := 2) (v := ?_) rfl (by kernel_rfl) (by kernel_rfl) (by kernel_rfl) (fun _ _ _ h => h) (Or.inl ⟨by rfl, ?_⟩) (HS4.out) ?_
      rotate_left
      ·intro w _; go_simp; with_reducible rfl
      try simp only [Act.put, List.getElem_toArray, List.getElem_cons_zero, List.getElem_cons_succ, List.setIfInBounds_toArray, List.set_cons_zero, List.set_cons_succ]
      refine wpAnyH_take (i := 3) (v := ?_) rfl (by kernel_rfl) (by kernel_rfl) (by kernel_rfl) (fun _ _ _ h => h) (Or.inl ⟨by rfl, ?_⟩) (HS4.out) ?_
      rotate_left
      ·intro w _; go_simp; with_reducible rfl
      try simp only [Act.put, List.getElem_toArray, List.getElem_cons_zero, List.getElem_cons_succ, List.setIfInBounds_toArray, List.set_cons_zero, List.set_cons_succ]
      refine wpAnyH_take (i := 4) (v := ?_) rfl (by kernel_rfl) (by kernel_rfl) (by kernel_rfl) (fun _ _ _ h => h) (Or.inl ⟨by rfl, ?_⟩) (HS4.out) ?_
      rotate_left
      ·intro w' hS; have q0 := hS.2.cell 0; go_simp; with_reducible rfl
      try simp only [Act.put, List.getElem_toArray, List.getElem_cons_zero, List.getElem_cons_succ, List.setIfInBounds_toArray, List.set_cons_zero, List.set_cons_succ]
      refine wpAnyH_take (i := 5) (v := ?_) rfl (by kernel_rfl) (by kernel_rfl) (by kernel_rfl) (fun _ _ _ h => h) (Or.inl ⟨by rfl, ?_⟩) (HS4.out) ?_
      rotate_left
      ·intro w _; go_simp; with_reducible rfl
      try simp only [Act.put, List.getElem_toArray, List.getElem_cons_zero, List.getElem_cons_succ, List.setIfInBounds_toArray, List.set_cons_zero, List.set_cons_succ]
      refine wpAnyH_take (i := 6) (v := ?_) rfl (by kernel_rfl) (by kernel_rfl) (by kernel_rfl) (fun _ _ _ h => h) (Or.inl ⟨by rfl, ?_⟩) (HS4.out) ?_
      rotate_left
      ·intro w _; go_simp; with_reducible rfl
      try simp only [Act.put, List.getElem_toArray, List.getElem_cons_zero, List.getElem_cons_succ, List.setIfInBounds_toArray, List.set_cons_zero, List.set_cons_succ]
      have HNE : Hid (g2 ≠ l) := Lib.hid (blk_ne HG4.out HL4.out.blk (by decide))
      have q6 : w4.cell? ⟨l, 6, none⟩ = some (.int .i64 (u0 : Int)) := HL4.out.blk.cell 6
      have z6 : w4.frozen? ⟨l, 6, none⟩ = false := HL4.out.blk.frozen 6
      have q7 : w4.cell? ⟨l, 7, none⟩ = some (.int .i64 (n0 : Int)) := HL4.out.blk.cell 7
      have z7 : w4.frozen? ⟨l, 7, none⟩ = false := HL4.out.blk.frozen 7
      have k67 := HL4.out.blk.set_ 6 (.int .i64 1)
      have r7 : (w4.setCell ⟨l, 6, none⟩ (.int .i64 1)).cell? ⟨l, 7, none⟩ = some (.int .i64 (n0 : Int)) := k67.cell 7
      have y7 : (w4.setCell ⟨l, 6, none⟩ (.int .i64 1)).frozen? ⟨l, 7, none⟩ = false := k67.frozen 7
      have K1 : Hid (Blk ((w4.setCell ⟨l, 6, none⟩ (.int .i64 1)).setCell ⟨l, 7, none⟩ (.int .i64 (s : Int))) l 59 (logCells d z 1 s (.slice none 0 0) 0 false)) := Lib.hid (k67.set_ 7 (.int .i64 (s : Int)))
      have hne := HNE.out
      have S67 : Hid ((∃ u n, Blk (w4.setCell ⟨l, 6, none⟩ (.int .i64 1)) l 59 (logCells d z u n (.slice none 0 0) 0 false)) ∧ Blk (w4.setCell ⟨l, 6, none⟩ (.int .i64 1)) g2 74 #[.int .i64 (s : Int), .int .i64 ((2 : Nat) : Int)]) := Lib.hid ⟨⟨1, n0, k67⟩, HG4.out.far hne _⟩
      have S1 : Hid ((∃ u n, Blk ((w4.setCell ⟨l, 6, none⟩ (.int .i64 1)).setCell ⟨l, 7, none⟩ (.int .i64 (s : Int))) l 59 (logCells d z u n (.slice none 0 0) 0 false)) ∧ Blk ((w4.setCell ⟨l, 6, none⟩ (.int .i64 1)).setCell ⟨l, 7, none⟩ (.int .i64 (s : Int))) g2 74 #[.int .i64 (s : Int), .int .i64 ((2 : Nat) : Int)]) := Lib.hid ⟨⟨_, _, K1.out⟩, S67.out.2.far hne _⟩
      have HF4 := Lib.hid (HFi.out.trans (LFr.below HB4.out))
      have HP2 : Hid (Hv.pick hd 2 = (1, s)) := Lib.hid (by rw [HPK.out, if_pos (by simpa using hns)])
      clear k67 hne hns i0 e2
      refine all_one (i := 7) (by kernel_rfl) rfl (by rfl) (fun K hK => ?_)
      go_simp
      refine hK _ _ S67.out ?_; clear hK K
      try simp only [Act.put, List.getElem_toArray, List.getElem_cons_zero, List.getElem_cons_succ, List.setIfInBounds_toArray, List.set_cons_zero, List.set_cons_succ]
      refine wpAnyH_take (i := 8) (v := ?_) rfl (by kernel_rfl) (by kernel_rfl) (by kernel_rfl) (fun _ _ _ h => h) (Or.inl ⟨by rfl, ?_⟩) (S67.out) ?_
      rotate_left
      ·intro w _; go_simp; with_reducible rfl
      try simp only [Act.put, List.getElem_toArray, List.getElem_cons_zero, List.getElem_cons_succ, List.setIfInBounds_toArray, List.set_cons_zero, List.set_cons_succ]
      refine wpAnyH_take (i := 9) (v := ?_) rfl (by kernel_rfl) (by kernel_rfl) (by kernel_rfl) (fun _ _ _ h => h) (Or.inl ⟨by rfl, ?_⟩) (S67.out) ?_
      rotate_left
      ·intro w _; go_simp; with_reducible rfl
      try simp only [Act.put, List.getElem_toArray, List.getElem_cons_zero, List.getElem_cons_succ, List.setIfInBounds_toArray, List.set_cons_zero, List.set_cons_succ]
      refine all_one (i := 10) (by kernel_rfl) rfl (by rfl) (fun K hK => ?_)
      go_simp
      refine hK _ _ S1.out ?_; clear hK K
      try simp only [Act.put, List.getElem_toArray, List.getElem_cons_zero, List.getElem_cons_succ, List.setIfInBounds_toArray, List.set_cons_zero, List.set_cons_succ]
      refine wpAnyH_done (by kernel_rfl) ?_ _
      go_wp2_with fail
      refine ⟨⟨2, by omega, rfl, by rw [HP2.out]; exact Lib.hid ⟨K1.out, HLB.out⟩, Lib.hid (dk_set2 (HDi.out.below HB4.out) HL4.out.blk _ _ _ _), Lib.hid ((HF4.out.trans (LFr.set HLB.out _ _)).trans (LFr.set HLB.out _ _))⟩, by simp [intOf]⟩
     ·have i0 : decide ((n0 : Int) < (s : Int)) = false := by simp; omega
      have i1 : decide (n0 < s) = false := by simp; omega
      have e2 : ((2 : Nat) : Int) = 2 := rfl
      rw [e2] at p1
      have HP2 : Hid (Hv.pick hd 2 = (u0, n0)) := Lib.hid (by rw [HPK.out, if_neg (by rintro ⟨_, h⟩; exact hns h)])
      clear hns
      go_quiet (fail)
      go_wp2_with fail
      exact ⟨⟨2, by omega, rfl, by rw [HP2.out]; exact Lib.hid (HLi.out.below (below_drewN HB2.out _)), Lib.hid (HDi.out.below (below_drewN HB2.out _)), Lib.hid (HFi.out.trans (LFr.below (below_drewN HB2.out _)))⟩, by simp [intOf]⟩
    ·have b0 : ((t : Int) == 2) = false := by simp; omega
     have HP2 : Hid (Hv.pick hd 2 = (u0, n0)) := Lib.hid (by rw [HPK.out, if_neg (by rintro ⟨h, _⟩; exact ht2 h)])
     clear ht2
     go_quiet (fail)
     go_wp2_with fail
     exact ⟨⟨2, by omega, rfl, by rw [HP2.out]; exact Lib.hid (HLi.out.below (below_drewN HB2.out _)), Lib.hid (HDi.out.below (below_drewN HB2.out _)), Lib.hid (HFi.out.trans (LFr.below (below_drewN HB2.out _)))⟩, by simp [intOf]⟩
  ·obtain rfl : i = 2 := by omega
   have hlc := HLi.out
   rw [HP.out] at hlc
   have HL2 := Lib.hid hlc
   clear hlc hi2 hlt HLi
   go_wp2_with fail
   obtain ⟨w4, hw4⟩ : ∃ w4, w4 = wr.drew := ⟨_, rfl⟩
   have HL4 : Hid (LogAt B w4 l d z 0 n (.slice none 0 0) 0 false) := Lib.hid (by rw [hw4]; exact HL2.out.below (below_drewN (Below.refl _ _) 1))
   have HD4 : Hid (DkX B w4 d S k) := Lib.hid (by rw [hw4]; exact HDi.out.below (below_drewN (Below.refl _ _) 1))
   have HF4 : Hid (LFr B l w w4) := Lib.hid (by rw [hw4]; exact HFi.out.trans (LFr.below (below_drewN (Below.refl _ _) 1)))
   refine wp_region_held (S := (fun w' => Blk w' l 59 (logCells d z 0 n (.slice none 0 0) 0 false))) (by kernel_rfl) ?_
   change wpAnyH _ _ _ _ _ _ _ _ wr.drew
   rw [← hw4]
   clear hw4
   refine wpAnyH_take (i := 0) (v := ?_) rfl (by kernel_rfl) (by kernel_rfl) (by kernel_rfl) (fun _ _ _ h => h) (Or.inl ⟨by rfl, ?_⟩) (HL4.out.blk) ?_
   rotate_left
   ·intro w _; go_simp; with_reducible rfl
   try simp only [Act.put, List.getElem_toArray, List.getElem_cons_zero, List.setIfInBounds_toArray, List.set_cons_zero, List.set_cons_succ]
   refine wpAnyH_take (i := 1) (v := ?_) rfl (by kernel_rfl) (by kernel_rfl) (by kernel_rfl) (fun _ _ _ h => h) (Or.inl ⟨by rfl, ?_⟩) (HL4.out.blk) ?_
   rotate_left
   ·intro w _; go_simp; with_reducible rfl
   try simp only [Act.put, List.getElem_toArray, List.getElem_cons_zero, List.getElem_cons_succ, List.setIfInBounds_toArray, List.set_cons_zero, List.set_cons_succ]
   refine wpAnyH_take (i := 2) (v := ?_) rfl (by kernel_rfl) (by kernel_rfl) (by kernel_rfl) (fun _ _ _ h => h) (Or.inl ⟨by rfl, ?_⟩) (HL4.out.blk) ?_
   rotate_left
   ·intro w _; go_simp; with_reducible rfl
   try simp only [Act.put, List.getElem_toArray, List.getElem_cons_zero, List.getElem_cons_succ, List.setIfInBounds_toArray, List.set_cons_zero, List.set_cons_succ]
   refine wpAnyH_take (i := 3) (v := ?_) rfl (by kernel_rfl) (by kernel_rfl) (by kernel_rfl) (fun _ _ _ h => h) (Or.inl ⟨by rfl, ?_⟩) (HL4.out.blk) ?_
   rotate_left
   ·intro w _; go_simp; with_reducible rfl
   try simp only [Act.put, List.getElem_toArray, List.getElem_cons_zero, List.getElem_cons_succ, List.setIfInBounds_toArray, List.set_cons_zero, List.set_cons_succ]
   refine wpAnyH_take (i := 4) (v := ?_) rfl (by kernel_rfl) (by kernel_rfl) (by kernel_rfl) (fun _ _ _ h => h) (Or.inl ⟨by rfl, ?_⟩) (HL4.out.blk) ?_
   rotate_left
   ·intro w' hS; have q0 : w'.cell? ⟨l, 6, none⟩ = some (.int .i64 0) := hS.cell 6; go_simp; with_reducible rfl
   try simp only [Act.put, List.getElem_toArray, List.getElem_cons_zero, List.getElem_cons_succ, List.setIfInBounds_toArray, List.set_cons_zero, List.set_cons_succ]
   refine wpAnyH_take (i := 5) (v := ?_) rfl (by kernel_rfl) (by kernel_rfl) (by kernel_rfl) (fun _ _ _ h => h) (Or.inl ⟨by rfl, ?_⟩) (HL4.out.blk) ?_
   rotate_left
   ·intro w _; go_simp; with_reducible rfl
   try simp only [Act.put, List.getElem_toArray, List.getElem_cons_zero, List.getElem_cons_succ, List.setIfInBounds_toArray, List.set_cons_zero, List.set_cons_succ]
   refine wpAnyH_take (i := 6) (v := ?_) rfl (by kernel_rfl) (by kernel_rfl) (by kernel_rfl) (fun _ _ _ h => h) (Or.inl ⟨by rfl, ?_⟩) (HL4.out.blk) ?_
   rotate_left
   ·intro w _; go_simp; with_reducible rfl
   try simp only [Act.put, List.getElem_toArray, List.getElem_cons_zero, List.getElem_cons_succ, List.setIfInBounds_toArray, List.set_cons_zero, List.set_cons_succ]
   refine wpAnyH_take (i := 7) (v := ?_) rfl (by kernel_rfl) (by kernel_rfl) (by kernel_rfl) (fun _ _ _ h => h) (Or.inl ⟨by rfl, ?_⟩) (HL4.out.blk) ?_
   rotate_left
   ·intro w _; go_simp; with_reducible rfl
   try simp only [Act.put, List.getElem_toArray, List.getElem_cons_zero, List.getElem_cons_succ, List.setIfInBounds_toArray, List.set_cons_zero, List.set_cons_succ]
   refine wpAnyH_take (i := 8) rfl (by kernel_rfl) (by kernel_rfl) (by kernel_rfl) (fun _ _ _ h => h) (yieldsIf_load_mid (by rfl) 56 (.tmp 45) rfl l 0 rfl [.pointer (some ⟨d, 0, none⟩), .int .i64 ((0 : Nat) : Int), .int .i64 (z : Int)] _ (fun w' hS => half_range0 hS) Tryd.underlying56 rfl (by kernel_rfl)) (HL4.out.blk) ?_
   try simp only [Act.put, List.getElem_toArray, List.getElem_cons_zero, List.getElem_cons_succ, List.setIfInBounds_toArray, List.set_cons_zero, List.set_cons_succ]
   refine all_one (i := 9) (by kernel_rfl) rfl (by rfl) (fun K hK => ?_)
   go_simp
   refine hK _ _ (HL4.out.blk.alloc _) ?_; clear hK K
   try simp only [Act.put, List.getElem_toArray, List.getElem_cons_zero, List.getElem_cons_succ, List.setIfInBounds_toArray, List.set_cons_zero, List.set_cons_succ]
   obtain ⟨w5, hw5⟩ : ∃ w5, w5 = (w4.alloc (.cells #[.pointer none, .int .i64 0, .int .i64 0] 56)).setRow w4.heap.size #[.pointer (some ⟨d, 0, none⟩), .int .i64 ((0 : Nat) : Int), .int .i64 (z : Int)] := ⟨_, rfl⟩
   have HB5 : Hid (Below w4.heap.size w4 w5) := Lib.hid (by rw [hw5]; exact below_row (below_al w4 _) (Nat.le_refl _) _)
   have HK5 : Hid (Blk w5 w4.heap.size 56 #[.pointer (some ⟨d, 0, none⟩), .int .i64 ((0 : Nat) : Int), .int .i64 (z : Int)]) := Lib.hid (by rw [hw5]; exact (Blk.new w4 _ _).row _)
   have HL5 : Hid (LogAt B w5 l d z 0 n (.slice none 0 0) 0 false) := Lib.hid (HL4.out.below HB5.out)
   have HD5 : Hid (DkX B w5 d S k) := Lib.hid (HD4.out.below HB5.out)
   have HF5 : Hid (LFr B l w w5) := Lib.hid (HF4.out.trans (LFr.below HB5.out))
   refine all_one (i := 10) (by kernel_rfl) rfl (by rfl) (fun K hK => ?_)
   refine wp_store_row 56 (.tmp 5) (.tmp 46) rfl w4.heap.size #[.pointer (some ⟨d, 0, none⟩), .int .i64 ((0 : Nat) : Int), .int .i64 (z : Int)] rfl rfl 56 #[.pointer none, .int .i64 0, .int .i64 0] (Blk.new w4 _ _) (by kernel_rfl) rfl (by simp [Value.oneCell']) ?_
   rw [← hw5]
   refine hK _ _ HL5.out.blk ?_; clear hK K
   try simp only [Act.put, List.getElem_toArray, List.getElem_cons_zero, List.getElem_cons_succ]
   refine wpAnyH_done (by kernel_rfl) ?_ _
   obtain ⟨g5, hg5⟩ : ∃ g5, g5 = w4.heap.size := ⟨_, rfl⟩
   rw [← hg5] at HK5 ⊢
   have HNE : Hid (g5 ≠ l) := Lib.hid (blk_ne HK5.out HL5.out.blk (by decide))
   clear hw5 hg5
   have p7 : w5.cell? ⟨l, 7, none⟩ = some (.int .i64 (n : Nat)) := HL5.out.blk.cell 7
   have b0 : ((n : Int) == 0) = false := by simp; omega
   go_wp2_with fail
   have HUT : Hid (Hv.Up T) := Lib.hid (by rw [HT.out]; exact HU.out)
   have HST : Hid (T.size = S.size) := Lib.hid (by rw [HT.out])
   have HD11 : Hid (DkX B w5 d T (k + z + 4)) := Lib.hid (by rw [HT.out]; exact HD5.out.mono (by omega))
   have HL11 := HL5
   have HK11 := HK5
   have HF11 := HF5
   clear b0 p7
   obtain ⟨w12, hw12⟩ : ∃ w12, w12 = w5.drew := ⟨_, rfl⟩
   have HB12 : Hid (Below w5.heap.size w5 w12) := Lib.hid (by rw [hw12]; exact below_drewN (Below.refl _ _) 1)
   have HL12 := Lib.hid (HL11.out.below HB12.out)
   have HD12 := Lib.hid (HD11.out.below HB12.out)
   have HK12 : Hid (Blk w12 g5 56 #[.pointer (some ⟨d, 0, none⟩), .int .i64 ((0 : Nat) : Int), .int .i64 (z : Int)]) := Lib.hid (HK11.out.below HB12.out HK11.out.lt)
   have HF12 := Lib.hid (HF11.out.trans (LFr.below HB12.out))
   refine wp_region_held (S := (fun w' => (∃ v nx, Blk w' l 59 (logCells d z 0 n v nx false)) ∧ Blk w' g5 56 #[.pointer (some ⟨d, 0, none⟩), .int .i64 ((0 : Nat) : Int), .int .i64 (z : Int)])) (by kernel_rfl) ?_
   change wpAnyH _ _ _ _ _ _ _ _ w5.drew
   rw [← hw12]
   clear hw12
   have CR := hrecords_any 0 z n w12 ls hl HPS.out HLE.out (fun i hi w' hb => HRD.out i hi B d (k + z + 4) a w0 w' (HD12.out.below hb) ((HE.out.lfr HF12.out).below hb) HUT.out.1)
   rw [← HM.out] at CR
   refine wpAnyH_take (i := 0) (v := ?_) rfl (by kernel_rfl) (by kernel_rfl) (by kernel_rfl) (fun _ _ _ h => h) (Or.inl ⟨by rfl, ?_⟩) (⟨⟨_, _, HL12.out.blk⟩, HK12.out⟩) ?_
   rotate_left
   ·intro w _; go_simp; with_reducible rfl
   try simp only [Act.put, List.getElem_toArray, List.getElem_cons_zero, List.setIfInBounds_toArray, List.set_cons_zero, List.set_cons_succ]
   refine wpAnyH_take (i := 1) (v := ?_) rfl (by kernel_rfl) (by kernel_rfl) (by kernel_rfl) (fun _ _ _ h => h) (Or.inl ⟨by rfl, ?_⟩) (⟨⟨_, _, HL12.out.blk⟩, HK12.out⟩) ?_
   rotate_left
   ·intro w _; go_simp; with_reducible rfl
   try simp only [Act.put, List.getElem_toArray, List.getElem_cons_zero, List.getElem_cons_succ, List.setIfInBounds_toArray, List.set_cons_zero, List.set_cons_succ]
   refine wpAnyH_take (i := 2) rfl (by kernel_rfl) (by kernel_rfl) (by kernel_rfl) (fun _ _ _ h => h) (takes_row 56 (.tmp 5) rfl (by rfl) (g5) rfl 56 (#[.pointer (some ⟨d, 0, none⟩), .int .i64 ((0 : Nat) : Int), .int .i64 (z : Int)]) _ (fun w' h => h.2) Tryd.underlying56 rfl (by kernel_rfl)) (⟨⟨_, _, HL12.out.blk⟩, HK12.out⟩) ?_
   try simp only [Act.put, List.getElem_toArray, List.getElem_cons_zero, List.getElem_cons_succ, List.setIfInBounds_toArray, List.set_cons_zero, List.set_cons_succ]
   refine wpAnyH_take (i := 3) (v := ?_) rfl (by kernel_rfl) (by kernel_rfl) (by kernel_rfl) (fun _ _ _ h => h) (Or.inl ⟨by rfl, ?_⟩) (⟨⟨_, _, HL12.out.blk⟩, HK12.out⟩) ?_
   rotate_left
   ·intro w _; go_simp; with_reducible rfl
   try simp only [Act.put, List.getElem_toArray, List.getElem_cons_zero, List.getElem_cons_succ, List.setIfInBounds_toArray, List.set_cons_zero, List.set_cons_succ]
   refine wpAnyH_take (i := 4) (v := ?_) rfl (by kernel_rfl) (by kernel_rfl) (by kernel_rfl) (fun _ _ _ h => h) (Or.inl ⟨by rfl, ?_⟩) (⟨⟨_, _, HL12.out.blk⟩, HK12.out⟩) ?_
   rotate_left
   ·intro w _; go_simp; with_reducible rfl
   try simp only [Act.put, List.getElem_toArray, List.getElem_cons_zero, List.getElem_cons_succ, List.setIfInBounds_toArray, List.set_cons_zero, List.set_cons_succ]
   refine wpAnyH_take (i := 5) (v := ?_) rfl (by kernel_rfl) (by kernel_rfl) (by kernel_rfl) (fun _ _ _ h => h) (Or.inl ⟨by rfl, ?_⟩) (⟨⟨_, _, HL12.out.blk⟩, HK12.out⟩) ?_
   rotate_left
   ·intro w _; go_simp; with_reducible rfl
   try simp only [Act.put, List.getElem_toArray, List.getElem_cons_zero, List.getElem_cons_succ, List.setIfInBounds_toArray, List.set_cons_zero, List.set_cons_succ]
   refine wpAnyH_take (i := 6) (v := ?_) rfl (by kernel_rfl) (by kernel_rfl) (by kernel_rfl) (fun _ _ _ h => h) (Or.inl ⟨by rfl, ?_⟩) (⟨⟨_, _, HL12.out.blk⟩, HK12.out⟩) ?_
   rotate_left
   ·intro w' hS; obtain ⟨⟨v9, nx9, hb9⟩, _⟩ := hS; have q0 : w'.cell? ⟨l, 7, none⟩ = some (.int .i64 (n : Nat)) := hb9.cell 7; go_simp; with_reducible rfl
   try simp only [Act.put, List.getElem_toArray, List.getElem_cons_zero, List.getElem_cons_succ, List.setIfInBounds_toArray, List.set_cons_zero, List.set_cons_succ]
   refine all_one (i := 7) (by kernel_rfl) rfl (by rfl) (fun K hK => ?_)
   go_simp
   refine CR.mono ?_
   rintro e w13 ⟨v, rfl, ⟨us, hrec⟩, hb13⟩
   obtain ⟨A, c, rfl⟩ := row_slice hrec.row
   have HL13 := Lib.hid (HL12.out.below hb13)
   have HD13 := Lib.hid (HD12.out.below hb13)
   have HK13 : Hid (Blk w13 g5 56 #[.pointer (some ⟨d, 0, none⟩), .int .i64 ((0 : Nat) : Int), .int .i64 (z : Int)]) := Lib.hid (HK12.out.below hb13 HK12.out.lt)
   have HF13 := Lib.hid (HF12.out.trans (LFr.below hb13))
   have HR13 : Hid (Recs B w13 (.slice A ls.length c) us ls) := Lib.hid (hrec.mono (by have := HD12.out.lt; omega))
   dsimp only
   refine hK _ _ ⟨⟨_, _, HL13.out.blk⟩, HK13.out⟩ ?_; clear hK K CR hb13 hrec
   try simp only [Act.put, List.getElem_toArray, List.getElem_cons_zero, List.getElem_cons_succ, List.setIfInBounds_toArray, List.set_cons_zero, List.set_cons_succ]
   refine wpAnyH_take (i := 8) (v := ?_) rfl (by kernel_rfl) (by kernel_rfl) (by kernel_rfl) (fun _ _ _ h => h) (Or.inl ⟨by rfl, ?_⟩) (⟨⟨_, _, HL13.out.blk⟩, HK13.out⟩) ?_
   rotate_left
   ·intro w _; go_simp; with_reducible rfl
   try simp only [Act.put, List.getElem_toArray, List.getElem_cons_zero, List.getElem_cons_succ, List.setIfInBounds_toArray, List.set_cons_zero, List.set_cons_succ]
   refine wpAnyH_take (i := 9) (v := ?_) rfl (by kernel_rfl) (by kernel_rfl) (by kernel_rfl) (fun _ _ _ h => h) (Or.inl ⟨by rfl, ?_⟩) (⟨⟨_, _, HL13.out.blk⟩, HK13.out⟩) ?_
   rotate_left
   ·intro w _; go_simp; with_reducible rfl
   try simp only [Act.put, List.getElem_toArray, List.getElem_cons_zero, List.getElem_cons_succ, List.setIfInBounds_toArray, List.set_cons_zero, List.set_cons_succ]
   refine wpAnyH_take (i := 10) (v := ?_) rfl (by kernel_rfl) (by kernel_rfl) (by kernel_rfl) (fun _ _ _ h => h) (Or.inl ⟨by rfl, ?_⟩) (⟨⟨_, _, HL13.out.blk⟩, HK13.out⟩) ?_
   rotate_left
   ·intro w _; go_simp; with_reducible rfl
   try simp only [Act.put, List.getElem_toArray, List.getElem_cons_zero, List.getElem_cons_succ, List.setIfInBounds_toArray, List.set_cons_zero, List.set_cons_succ]
   refine wpAnyH_take (i := 11) (v := ?_) rfl (by kernel_rfl) (by kernel_rfl) (by kernel_rfl) (fun _ _ _ h => h) (Or.inl ⟨by rfl, ?_⟩) (⟨⟨_, _, HL13.out.blk⟩, HK13.out⟩) ?_
   rotate_left
   ·intro w _; go_simp; with_reducible rfl
   try simp only [Act.put, List.getElem_toArray, List.getElem_cons_zero, List.getElem_cons_succ, List.setIfInBounds_toArray, List.set_cons_zero, List.set_cons_succ]
   refine wpAnyH_take (i := 12) (v := ?_) rfl (by kernel_rfl) (by kernel_rfl) (by kernel_rfl) (fun _ _ _ h => h) (Or.inl ⟨by rfl, ?_⟩) (⟨⟨_, _, HL13.out.blk⟩, HK13.out⟩) ?_
   rotate_left
   ·intro w _; go_simp; with_reducible rfl
   try simp only [Act.put, List.getElem_toArray, List.getElem_cons_zero, List.getElem_cons_succ, List.setIfInBounds_toArray, List.set_cons_zero, List.set_cons_succ]
   have q8 : w13.cell? ⟨l, 8, none⟩ = some (.slice none 0 0) := HL13.out.blk.cell 8
   have z8 : w13.frozen? ⟨l, 8, none⟩ = false := HL13.out.blk.frozen 8
   have k8 := HL13.out.blk.set_ 8 (.slice A ls.length c)
   have q9 : (w13.setCell ⟨l, 8, none⟩ (.slice A ls.length c)).cell? ⟨l, 9, none⟩ = some (.int .i64 0) := k8.cell 9
   have z9 : (w13.setCell ⟨l, 8, none⟩ (.slice A ls.length c)).frozen? ⟨l, 9, none⟩ = false := k8.frozen 9
   have K8 : Hid (Blk (w13.setCell ⟨l, 8, none⟩ (.slice A ls.length c)) l 59 (logCells d z 0 n (.slice A ls.length c) 0 false)) := Lib.hid k8
   have G8 := Lib.hid (HK13.out.far HNE.out (p := ⟨l, 8, none⟩) (.slice A ls.length c))
   obtain ⟨w14, hw14⟩ : ∃ w14, w14 = (w13.setCell ⟨l, 8, none⟩ (.slice A ls.length c)).setCell ⟨l, 9, none⟩ (.int .i64 (m : Int)) := ⟨_, rfl⟩
   have HL14 : Hid (LogAt B w14 l d z 0 n (.slice A ls.length c) m false) := Lib.hid (by rw [hw14]; exact ⟨k8.set_ 9 (.int .i64 (m : Int)), HLB.out⟩)
   have HK14 : Hid (Blk w14 g5 56 #[.pointer (some ⟨d, 0, none⟩), .int .i64 ((0 : Nat) : Int), .int .i64 (z : Int)]) := Lib.hid (by rw [hw14]; exact G8.out.far HNE.out _)
   have HD14 : Hid (DkX B w14 d T (k + z + 4)) := Lib.hid (by rw [hw14]; exact dk_set2 HD13.out HL13.out.blk _ _ _ _)
   have HF14 : Hid (LFr B l w w14) := Lib.hid (by rw [hw14]; exact (HF13.out.trans (LFr.set HLB.out _ _)).trans (LFr.set HLB.out _ _))
   have HR14 : Hid (Recs B w14 (.slice A ls.length c) us ls) := Lib.hid (by rw [hw14]; exact (HR13.out.far HL13.out.blk 8 _).far k8 9 _)
   clear k8
   refine all_one (i := 13) (by kernel_rfl) rfl (by rfl) (fun K hK => ?_)
   go_simp
   refine hK _ _ ⟨⟨_, _, K8.out⟩, G8.out⟩ ?_; clear hK K
   try simp only [Act.put, List.getElem_toArray, List.getElem_cons_zero, List.getElem_cons_succ, List.setIfInBounds_toArray, List.set_cons_zero, List.set_cons_succ]
   refine wpAnyH_take (i := 14) (v := ?_) rfl (by kernel_rfl) (by kernel_rfl) (by kernel_rfl) (fun _ _ _ h => h) (Or.inl ⟨by rfl, ?_⟩) (⟨⟨_, _, K8.out⟩, G8.out⟩) ?_
   rotate_left
   ·intro w _; go_simp; with_reducible rfl
   try simp only [Act.put, List.getElem_toArray, List.getElem_cons_zero, List.getElem_cons_succ, List.setIfInBounds_toArray, List.set_cons_zero, List.set_cons_succ]
   refine wpAnyH_take (i := 15) (v := ?_) rfl (by kernel_rfl) (by kernel_rfl) (by kernel_rfl) (fun _ _ _ h => h) (Or.inl ⟨by rfl, ?_⟩) (⟨⟨_, _, K8.out⟩, G8.out⟩) ?_
   rotate_left
   ·intro w _; go_simp; with_reducible rfl
   try simp only [Act.put, List.getElem_toArray, List.getElem_cons_zero, List.getElem_cons_succ, List.setIfInBounds_toArray, List.set_cons_zero, List.set_cons_succ]
   refine all_one (i := 16) (by kernel_rfl) rfl (by rfl) (fun K hK => ?_)
   go_simp
   rw [← hw14]
   refine hK _ _ ⟨⟨_, _, HL14.out.blk⟩, HK14.out⟩ ?_; clear hK K
   try simp only [Act.put, List.getElem_toArray, List.getElem_cons_zero, List.getElem_cons_succ, List.setIfInBounds_toArray, List.set_cons_zero, List.set_cons_succ]
   refine wpAnyH_done (by kernel_rfl) ?_ _
   clear hw14 q8 z8 q9 z9
   go_wp2_with fail
   obtain ⟨w15, hw15⟩ : ∃ w15, w15 = w14.drew := ⟨_, rfl⟩
   have HB15 : Hid (Below w14.heap.size w14 w15) := Lib.hid (by rw [hw15]; exact below_drewN (Below.refl _ _) 1)
   have HL15 := Lib.hid (HL14.out.below HB15.out)
   have HD15 := Lib.hid (HD14.out.below HB15.out)
   have HK15 : Hid (Blk w15 g5 56 #[.pointer (some ⟨d, 0, none⟩), .int .i64 ((0 : Nat) : Int), .int .i64 (z : Int)]) := Lib.hid (HK14.out.below HB15.out HK14.out.lt)
   have HF15 := Lib.hid (HF14.out.trans (LFr.below HB15.out))
   refine wp_region_held (S := (fun w' => Blk w' l 59 (logCells d z 0 n (.slice A ls.length c) m false) ∧ Blk w' g5 56 #[.pointer (some ⟨d, 0, none⟩), .int .i64 ((0 : Nat) : Int), .int .i64 (z : Int)])) (by kernel_rfl) ?_
   change wpAnyH _ _ _ _ _ _ _ _ w14.drew
   rw [← hw15]
   clear hw15
   have HR15 := Lib.hid (HR14.out.below HB15.out)
   have CW := hwipe_any 0 z m (z - m) a w0 w15 HD15.out HUT.out.1 (by omega) (by rw [HST.out]; omega) (by have := HSZ.out; omega) HE.out.sents HE.out.low (HE.out.lfr HF15.out).bel
   have HUW := Lib.hid (HUT.out.wipeN (f := 0) (n := z - m) (i := m))
   rw [HUW.out.1] at CW
   have HTS : Hid (Hv.tailS 0 m (z - m) T = if (Hv.wipeN 0 m (z - m) T).2.1 then Dk.syncs (Hv.wipeN 0 m (z - m) T).2.2 else (Hv.wipeN 0 m (z - m) T).2.2) := Lib.hid rfl
   generalize hR : Hv.wipeN 0 m (z - m) T = R at CW HUW HTS
   obtain ⟨r1, st, S'⟩ := R
   dsimp only at CW
   clear hR
   refine wpAnyH_take (i := 0) rfl (by kernel_rfl) (by kernel_rfl) (by kernel_rfl) (fun _ _ _ h => h) (takes_row 56 (.tmp 5) rfl (by rfl) (g5) rfl 56 (#[.pointer (some ⟨d, 0, none⟩), .int .i64 ((0 : Nat) : Int), .int .i64 (z : Int)]) _ (fun w' h => h.2) Tryd.underlying56 rfl (by kernel_rfl)) (⟨HL15.out.blk, HK15.out⟩) ?_
   try simp only [Act.put, List.getElem_toArray, List.getElem_cons_zero, List.setIfInBounds_toArray, List.set_cons_zero, List.set_cons_succ]
   refine wpAnyH_take (i := 1) (v := ?_) rfl (by kernel_rfl) (by kernel_rfl) (by kernel_rfl) (fun _ _ _ h => h) (Or.inl ⟨by rfl, ?_⟩) (⟨HL15.out.blk, HK15.out⟩) ?_
   rotate_left
   ·intro w _; go_simp; with_reducible rfl
   try simp only [Act.put, List.getElem_toArray, List.getElem_cons_zero, List.getElem_cons_succ, List.setIfInBounds_toArray, List.set_cons_zero, List.set_cons_succ]
   refine wpAnyH_take (i := 2) (v := ?_) rfl (by kernel_rfl) (by kernel_rfl) (by kernel_rfl) (fun _ _ _ h => h) (Or.inl ⟨by rfl, ?_⟩) (⟨HL15.out.blk, HK15.out⟩) ?_
   rotate_left
   ·intro w _; go_simp; with_reducible rfl
   try simp only [Act.put, List.getElem_toArray, List.getElem_cons_zero, List.getElem_cons_succ, List.setIfInBounds_toArray, List.set_cons_zero, List.set_cons_succ]
   refine wpAnyH_take (i := 3) (v := ?_) rfl (by kernel_rfl) (by kernel_rfl) (by kernel_rfl) (fun _ _ _ h => h) (Or.inl ⟨by rfl, ?_⟩) (⟨HL15.out.blk, HK15.out⟩) ?_
   rotate_left
   ·intro w _; go_simp; with_reducible rfl
   try simp only [Act.put, List.getElem_toArray, List.getElem_cons_zero, List.getElem_cons_succ, List.setIfInBounds_toArray, List.set_cons_zero, List.set_cons_succ]
   refine wpAnyH_take (i := 4) (v := ?_) rfl (by kernel_rfl) (by kernel_rfl) (by kernel_rfl) (fun _ _ _ h => h) (Or.inl ⟨by rfl, ?_⟩) (⟨HL15.out.blk, HK15.out⟩) ?_
   rotate_left
   ·intro w' hS; have q0 : w'.cell? ⟨l, 9, none⟩ = some (.int .i64 (m : Nat)) := hS.1.cell 9; go_simp; with_reducible rfl
   try simp only [Act.put, List.getElem_toArray, List.getElem_cons_zero, List.getElem_cons_succ, List.setIfInBounds_toArray, List.set_cons_zero, List.set_cons_succ]
   refine all_one (i := 5) (by kernel_rfl) rfl (by rfl) (fun K hK => ?_)
   go_simp
   refine CW.mono ?_
   rintro e w16 ⟨rfl, hd16, ht16⟩
   have HD16 := Lib.hid hd16
   have HL16 := Lib.hid (HL15.out.tfr ht16)
   have HK16 : Hid (Blk w16 g5 56 #[.pointer (some ⟨d, 0, none⟩), .int .i64 ((0 : Nat) : Int), .int .i64 (z : Int)]) := Lib.hid (ht16.typed _ _ _ HK15.out (by decide) (by decide))
   have HF16 := Lib.hid (HF15.out.trans (LFr.of ht16))
   have HR16 := Lib.hid (HR15.out.tfr ht16)
   have HE16 := Lib.hid (HE.out.lfr HF16.out)
   unfold outc
   rw [if_pos rfl]
   dsimp only
   refine hK _ _ ⟨HL16.out.blk, HK16.out⟩ ?_; clear hK K CW hd16 ht16
   try simp only [Act.put, List.getElem_toArray, List.getElem_cons_zero, List.getElem_cons_succ, List.setIfInBounds_toArray, List.set_cons_zero, List.set_cons_succ]
   refine wpAnyH_done (by kernel_rfl) ?_ _
   cases st
   ·go_wp2_with fail
    go_end0
    exact ⟨rfl, ⟨_, HL16.out, _, HR16.out⟩, by rw [HTS.out, if_neg (by simp)]; exact HD16.out.mono (by omega), HF16.out⟩
   ·have CS := xsync_any 0 z (a 15) w16 HD16.out (by have := HSZ.out; omega) HE16.out.down (HE16.out.ne HD16.out)
    rw [HUW.out.2.done] at CS
    go_wp2_with (refine wpList_load_row rfl 56 (.tmp 5) rfl g5 rfl 56 _ (0,0) _ HK16.out Tryd.underlying56 rfl (by kernel_rfl) ?_)
    go_at_call 26
    refine CS.mono ?_
    rintro e w17 ⟨rfl, hd17, ht17⟩
    have HD17 := Lib.hid hd17
    have HL17 := Lib.hid (HL16.out.tfr ht17)
    have HF17 := Lib.hid (HF16.out.trans (LFr.of ht17))
    have HR17 := Lib.hid (HR16.out.tfr ht17)
    unfold outc
    rw [if_pos rfl]
    clear hd17 ht17 CS
    go_wp2_with fail
    go_end0
    exact ⟨rfl, ⟨_, HL17.out, _, HR17.out⟩, by rw [HTS.out, if_pos (by simp)]; exact HD17.out.mono (by omega), HF17.out⟩
end Go.Proofs.YtdokojlgcplefaaDoor
