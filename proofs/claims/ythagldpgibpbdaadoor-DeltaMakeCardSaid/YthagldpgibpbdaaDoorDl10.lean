/- delta.longest, in general. -/
import Derived.Test.YthagldpgibpbdaaDoorDl9
namespace Go.Proofs.YthagldpgibpbdaaDoor
open Go Go.RowKit
def LongI (B : Nat) (w : World) (s : Nat × Nat) (wr : World) : Prop :=
  Blk wr B 44 #[.int .i64 0, .slice none 0 0, .int .i64 0] ∧ Blk wr (B + 1) 44 #[.int .i64 (s.1 : Int), .slice none 0 0, .int .i64 (s.2 : Int)] ∧ Below B w wr
theorem LongI.put {B : Nat} {w wr : World} {s : Nat × Nat} (h : LongI B w s wr) (n q f : Nat) : LongI B w (q, f) ((((wr.drewN n).setCell ⟨B + 1, 0, none⟩ (.int .i64 (q : Int))).setCell ⟨B + 1, 1, none⟩ (.slice none 0 0)).setCell ⟨B + 1, 2, none⟩ (.int .i64 (f : Int))) := by
  refine ⟨(((h.1.drewN n).far (p := ⟨B + 1, 0, none⟩) (by show B ≠ B + 1; omega) _).far (p := ⟨B + 1, 1, none⟩) (by show B ≠ B + 1; omega) _).far (p := ⟨B + 1, 2, none⟩) (by show B ≠ B + 1; omega) _, ?_, ?_⟩
  · have h2 := (((h.2.1.drewN n).set_ 0 (.int .i64 (q : Int))).set_ 1 (.slice none 0 0)).set_ 2 (.int .i64 (f : Int))
    simpa only [List.setIfInBounds_toArray, List.set_cons_zero, List.set_cons_succ] using h2
  · exact (((below_drewN h.2.2 n).setCell (p := ⟨B + 1, 0, none⟩) (by show B ≤ B + 1; omega) _).setCell (p := ⟨B + 1, 1, none⟩) (by show B ≤ B + 1; omega) _).setCell (p := ⟨B + 1, 2, none⟩) (by show B ≤ B + 1; omega) _
set_option maxRecDepth 100000 in
set_option maxHeartbeats 2000000 in
theorem longest_any (A : Option Addr) (nb cb : Nat) (b2 o2 nt ct : Nat) (base text : List Nat) (mx : Int) (w : World) (hB : Rd w (.slice A nb cb) base) (hT : Rd w (.slice (some ⟨b2, o2, none⟩) nt ct) text) (bb : Sha.Byte base) (bt : Sha.Byte text)
    (lb : base.length ≤ 1000000) (lt : text.length ≤ 1000000) (h4 : 4 ≤ text.length) (hm : w.cell? ⟨22, 0, none⟩ = some (.int .i64 mx)) :
    Calls Tryd.prog 31 #[.slice A nb cb, .slice (some ⟨b2, o2, none⟩) nt ct] w fun e w' => e = .returned (.agg #[.int .i64 ((Dl.lg base text).1 : Int), .slice none 0 0, .int .i64 ((Dl.lg base text).2 : Int)]) ∧ Below w.heap.size w w' := by
  have eb : nb = base.length := by obtain ⟨_, _, hv, _⟩ := hB; injection hv
  have et : nt = text.length := by obtain ⟨_, _, hv, _⟩ := hT; injection hv
  have hct : nt ≤ ct := by obtain ⟨_, _, hv, hc, _⟩ := hT; injection hv with _ e2 e3; omega
  have hcb : nb ≤ cb := by obtain ⟨_, _, hv, hc, _⟩ := hB; injection hv with _ e2 e3; omega
  have HBS := Lib.hid hB
  have HTX := Lib.hid hT
  have HBB := Lib.hid bb
  have HBT := Lib.hid bt
  have HMX := Lib.hid hm
  have HEB := Lib.hid eb
  have HET := Lib.hid et
  have S4 : ∀ w', (Instr.slice 22 (.slice (some ⟨b2, o2, none⟩) nt ct) none (some (.int .i64 4)) none).run Tryd.prog w' = .ok (.slice (some ⟨b2, o2, none⟩) 4 ct) w' := fun w' => sl_hi b2 o2 nt ct 4 w' (by omega) rfl
  have h1 : ¬ (nt : Int) < 4 := by omega
  have n0 := (Blk.new w 44 #[.int .i64 0, .slice none 0 0, .int .i64 0]).alloc (.cells #[.int .i64 0, .slice none 0 0, .int .i64 0] 44)
  have n1 := Blk.new (w.alloc (.cells #[.int .i64 0, .slice none 0 0, .int .i64 0] 44)) 44 #[.int .i64 0, .slice none 0 0, .int .i64 0]
  simp only [World.size_alloc] at n1
  have HL0 : Hid (LongI w.heap.size w (Dl.lgN base text 0) ((w.alloc (.cells #[.int .i64 0, .slice none 0 0, .int .i64 0] 44)).alloc (.cells #[.int .i64 0, .slice none 0 0, .int .i64 0] 44))) := Lib.hid ⟨n0, n1, ((Below.refl _ w).alloc (Nat.le_refl _) _).alloc (by simp) _⟩
  clear hB hT bb bt hm eb et n0 n1 h4
  go_enter Tryd.func31, Tryd.ntmps31
  go_wp2
  go_loopw [6] (fun i wr => ∃ k : Nat, k ≤ nb ∧ i = .int .i64 k ∧ LongI w.heap.size w (Dl.lgN base text k) wr) (fun i _ => nb + 1 - (intOf i).toNat)
  case atStart => exact ⟨0, Nat.zero_le _, rfl, HL0.out⟩
  case round =>
    obtain ⟨k, hk, rfl, hL⟩ := hrel
    have HL := Lib.hid hL
    have c0 : wr.cell? ⟨w.heap.size + 1, 0, none⟩ = some (.int .i64 ((Dl.lgN base text k).1 : Int)) := hL.2.1.cell 0
    have c1 : wr.cell? ⟨w.heap.size + 1, 1, none⟩ = some (.slice none 0 0) := hL.2.1.cell 1
    have c2 : wr.cell? ⟨w.heap.size + 1, 2, none⟩ = some (.int .i64 ((Dl.lgN base text k).2 : Int)) := hL.2.1.cell 2
    have d0 : wr.cell? ⟨w.heap.size, 0, none⟩ = some (.int .i64 0) := hL.1.cell 0
    have d1 : wr.cell? ⟨w.heap.size, 1, none⟩ = some (.slice none 0 0) := hL.1.cell 1
    have d2 : wr.cell? ⟨w.heap.size, 2, none⟩ = some (.int .i64 0) := hL.1.cell 2
    have f0 := hL.1.frozen 0
    have f1 := hL.1.frozen 1
    have f2 := hL.1.frozen 2
    have e0 := hL.2.1.frozen 0
    have e1 := hL.2.1.frozen 1
    have e2 := hL.2.1.frozen 2
    have hT1 : ∀ w', Below w.heap.size w w' → Rd w' (.slice (some ⟨b2, o2, none⟩) 4 ct) (text.take 4) := fun w' h => (HTX.out.below h (Nat.le_refl _)).cutHi (by rw [← HET.out]; omega)
    by_cases hs : nb - k < 4
    · -- fewer than four bytes are left
      have hend : Hid (Dl.lgN base text k = Dl.lg base text) := Lib.hid (by
        unfold Dl.lg
        rw [← HEB.out, show nb = k + (nb - k) by omega]
        exact (Dl.lgN_skip (nb - k) (fun j h1 h2 => by
          have := Dl.cmn_le (base.drop j) text 127
          rw [List.length_drop, ← HEB.out] at this
          omega)).symm)
      obtain ⟨A2, SK⟩ := sl_any A nb cb k hk (lo := (k : Int)) rfl
      have CI := Tryd.bytes_Index_longer A2 (some ⟨b2, o2, none⟩) (nb - k) (cb - k) 4 ct
      have i1 : (0 : Int) ≤ ((k : Nat) : Int) := by omega
      rw [hend.out] at c0 c2
      clear hL
      go_wp2
      go_quiet ((go_at_call 33; exact Calls.quiet_of_same (CI _ (by omega) hs (by omega))))
      go_wp2
      refine bodyPost_ret (v := .agg #[.int .i64 ((Dl.lg base text).1 : Int), .slice none 0 0, .int .i64 ((Dl.lg base text).2 : Int)]) (by simp [results, Tryd.results31, go_sem, d0, d1, d2]) rfl ⟨rfl, ?_⟩
      exact ((((below_drewN HL.out.2.2 nq).setCell (p := ⟨w.heap.size, 0, none⟩) (Nat.le_refl _) _).setCell (p := ⟨w.heap.size, 1, none⟩) (Nat.le_refl _) _).setCell (p := ⟨w.heap.size, 2, none⟩) (Nat.le_refl _) _)
    · obtain ⟨b1, o1, rfl, HR⟩ := HBS.out.at_ (by rw [← HEB.out]; omega)
      have S1 : ∀ w', (Instr.slice 22 (.slice (some ⟨b1, o1, none⟩) nb cb) (some (.int .i64 (k : Int))) none none).run Tryd.prog w' = .ok (.slice (some ⟨b1, o1 + k, none⟩) (nb - k) (cb - k)) w' := fun w' => sl_lo b1 o1 nb cb k w' hk (by omega) rfl
      have hBk : ∀ j, j ≤ nb → j < cb → ∀ w', Below w.heap.size w w' → Rd w' (.slice (some ⟨b1, o1 + j, none⟩) (nb - j) (cb - j)) (base.drop j) := fun j hj hjc w' h => by
        have h2 := (HBS.out.below h (Nat.le_refl _)).cut (k := j) (by rw [← HEB.out]; exact hj)
        rw [if_neg (by omega), Option.map_some, Addr.add_mid] at h2
        exact h2
      have CI : ∀ n, Calls Tryd.prog 33 #[.slice (some ⟨b1, o1 + k, none⟩) (nb - k) (cb - k), .slice (some ⟨b2, o2, none⟩) 4 ct] (wr.drewN n) fun e w' => e = .returned (.int .i64 (Lib.index ((base.drop k).map UInt8.ofNat) ((text.take 4).map UInt8.ofNat))) ∧ ∃ q, w' = (wr.drewN n).drewN q := fun n => by
        have hb := below_drewN HL.out.2.2 n
        refine index_any b1 (o1 + k) (nb - k) (cb - k) b2 o2 4 ct (base.drop k) (text.take 4) mx (wr.drewN n) (hBk k hk (by omega) _ hb) (hT1 _ hb) (fun i => by rw [Sha.getD_drop]; exact HBB.out _) (fun i => ?_) (by rw [List.length_drop]; omega) (by rw [List.length_take]; omega) ((hb.cell (p := ⟨22, 0, none⟩) (block_lt_of_cell HMX.out)).trans HMX.out)
        by_cases hi : i < 4
        · rw [Sha.getD_take hi]; exact HBT.out i
        · rw [List.getD_eq_getElem?_getD, List.getElem?_eq_none (by rw [List.length_take]; omega)]; show 0 < 256; omega
      have i1 : (0 : Int) ≤ ((k : Nat) : Int) := by omega
      rcases Dl.index_says HBB.out HBT.out (by rw [← HET.out]; omega) k with ⟨hi, hno⟩ | ⟨n, hi, hn, hq, hno⟩
      · have hend : Hid (Dl.lgN base text k = Dl.lg base text) := Lib.hid (by
          unfold Dl.lg
          rw [← HEB.out, show nb = k + (nb - k) by omega]
          exact (Dl.lgN_skip (nb - k) (fun j h1 _ => hno j h1)).symm)
        rw [hi] at CI
        rw [hend.out] at c0 c2
        clear hL hi hno hBk HR
        go_wp2
        go_quiet ((go_at_call 33; exact Calls.quiet_of (CI _)))
        go_wp2
        refine bodyPost_ret (v := .agg #[.int .i64 ((Dl.lg base text).1 : Int), .slice none 0 0, .int .i64 ((Dl.lg base text).2 : Int)]) (by simp [results, Tryd.results31, go_sem, d0, d1, d2]) rfl ⟨rfl, ?_⟩
        exact ((((below_drewN HL.out.2.2 nq).setCell (p := ⟨w.heap.size, 0, none⟩) (Nat.le_refl _) _).setCell (p := ⟨w.heap.size, 1, none⟩) (Nat.le_refl _) _).setCell (p := ⟨w.heap.size, 2, none⟩) (Nat.le_refl _) _)
      · rw [hi] at CI
        have hkn : k + n + 4 ≤ nb := by rw [HEB.out]; exact hn
        obtain ⟨kn, hkn'⟩ : ∃ kn, kn = k + n := ⟨_, rfl⟩
        have HKE := Lib.hid hkn'
        have HW1 : Hid (wrap64 ((k : Int) + (n : Int)) = (kn : Int)) := Lib.hid (by rw [IntWalk.wrap64_in _ (by have := HEB.out; omega)]; omega)
        have S2 : ∀ w', (Instr.slice 22 (.slice (some ⟨b1, o1, none⟩) nb cb) (some (.int .i64 (kn : Int))) none none).run Tryd.prog w' = .ok (.slice (some ⟨b1, o1 + kn, none⟩) (nb - kn) (cb - kn)) w' := fun w' => sl_lo b1 o1 nb cb kn w' (by omega) (by omega) (by omega)
        have CC : ∀ w', Below w.heap.size w w' → Calls Tryd.prog 34 #[.slice (some ⟨b1, o1 + kn, none⟩) (nb - kn) (cb - kn), .slice (some ⟨b2, o2, none⟩) nt ct] w' fun e w'' => e = .returned (.int .i64 (Dl.cmn (base.drop kn) text 127 : Nat)) ∧ ∃ m, w'' = w'.drewN m := fun w' h =>
          common_any _ _ _ _ _ _ (base.drop kn) text w' (hBk kn (by omega) (by omega) _ h) (HTX.out.below h (Nat.le_refl _)) (by rw [List.length_drop]; omega) lt
        have HS := Lib.hid (show Dl.lgN base text (kn + 1) = if (Dl.lgN base text k).1 < Dl.cmn (base.drop kn) text 127 then (Dl.cmn (base.drop kn) text 127, kn) else Dl.lgN base text k by
          rw [hkn', Dl.lgN_succ, Dl.lgN_skip n hno]
          by_cases h : (Dl.lgN base text k).1 < Dl.cmn (base.drop (k + n)) text 127
          · rw [if_pos ⟨hq, h⟩, if_pos h]
          · rw [if_neg (fun h' => h h'.2), if_neg h])
        rw [← hkn'] at hq
        obtain ⟨qq, hqq⟩ : ∃ qq, qq = Dl.cmn (base.drop kn) text 127 := ⟨_, rfl⟩
        rw [← hqq] at CC HS hq
        obtain ⟨sn, hsn⟩ : ∃ sn, sn = (Dl.lgN base text k).1 := ⟨_, rfl⟩
        obtain ⟨sf, hsf⟩ : ∃ sf, sf = (Dl.lgN base text k).2 := ⟨_, rfl⟩
        have HSE := Lib.hid (show Dl.lgN base text k = (sn, sf) by rw [hsn, hsf])
        rw [← hsn] at c0 HS
        rw [← hsf] at c2
        have hq127 : qq ≤ 127 := by rw [hqq]; exact (Dl.cmn_le _ _ _).1
        have HLB := Lib.hid lb
        have HLT := Lib.hid lt
        have HKN := Lib.hid hkn
        have k1 : kn ≤ 1000000 := by have := HEB.out; omega
        have k2 : 0 < nb := by omega
        have HKB := Lib.hid (show kn + 1 ≤ nb ∧ k < kn + 1 by omega)
        clear hL hi hno hBk HR hqq hsn hsf hn lb lt hkn hkn' hq hq127
        by_cases hgt : sn < qq
        · have g1 : (sn : Int) < (qq : Int) := by omega
          have HS2 := Lib.hid (show Dl.lgN base text (kn + 1) = (qq, kn) by rw [HS.out, if_pos hgt])
          clear hgt
          have W1 := HW1.out
          go_wp2
          go_quiet ((go_at_call 33; exact Calls.quiet_of (CI _)))
          go_wp2_with (go_at_call 34; refine (CC _ (below_drewN HL.out.2.2 nq)).mono ?_; rintro e w' ⟨rfl, m, rfl⟩)
          clear W1
          have h9 := HKB.out
          exact ⟨⟨kn + 1, h9.1, by go_num, by rw [HS2.out]; exact HL.out.put _ _ _⟩, by simp [intOf]; omega⟩
        · have g1 : ¬ (sn : Int) < (qq : Int) := by omega
          have HS2 := Lib.hid (show Dl.lgN base text (kn + 1) = Dl.lgN base text k by rw [HS.out, if_neg hgt, HSE.out])
          clear hgt
          have W1 := HW1.out
          go_wp2
          go_quiet ((go_at_call 33; exact Calls.quiet_of (CI _)))
          go_wp2_with (go_at_call 34; refine (CC _ (below_drewN HL.out.2.2 nq)).mono ?_; rintro e w' ⟨rfl, m, rfl⟩)
          clear W1
          have h9 := HKB.out
          exact ⟨⟨kn + 1, h9.1, by go_num, by rw [HS2.out]; exact ⟨HL.out.1.drewN _, HL.out.2.1.drewN _, below_drewN HL.out.2.2 _⟩⟩, by simp [intOf]; omega⟩
end Go.Proofs.YthagldpgibpbdaaDoor
