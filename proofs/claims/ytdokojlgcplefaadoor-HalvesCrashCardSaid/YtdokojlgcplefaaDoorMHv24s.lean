/- Layer 5: a log is laid anew with no records, where the power is on. -/
import Derived.Test.YtdokojlgcplefaaDoorMHv20s
namespace Go.Proofs.YtdokojlgcplefaaDoor
open Go Go.RowKit
namespace Hv
def emptyS (f z n : Nat) (S : Dk.D) : Dk.D := wholeS f n (Dk.syncs (begunS f z n S))
end Hv
theorem rdLL_nil (w : World) : RdLL w (.slice none 0 0) [] [] := ⟨none, 0, rfl, Nat.le_refl _, rfl, fun h => absurd h (by simp), fun i u hu => by simp at hu⟩
set_option maxRecDepth 100000 in
set_option maxHeartbeats 1000000 in
theorem lay_nil {B l d z k : Nat} {S : Dk.D} (a : Nat → Addr) (w0 w : World) (n0 m : Nat) (v : Value) (hL : LogAt B w l d z 0 n0 v m false) (hv : v.oneCell' = true) (hD : DkX B w d S k) (hu : Hv.Up S) (hz : 2 ≤ z) (hi : z + z ≤ S.size) (hk : k + 100000 < 1000000) (hE : Env B a w0 w) (s0 t0 s1 t1 : Nat) (h0 : Hv.headM (Dk.seen S 0) = (s0, t0)) (h1 : Hv.headM (Dk.seen S z) = (s1, t1)) (n : Nat) (hn : n = max (max 1 (s0 + 1)) (s1 + 1)) (htop : n ≤ Hv.top) :
  Calls Tryd.prog 29 #[.pointer (some ⟨l, 0, none⟩), .int .i64 1, .slice none 0 0] w fun e w' => e = .returned (.tuple #[]) ∧ (∃ v, LogAt B w' l d z 1 n v 1 false ∧ ∃ us, Recs B w' v us []) ∧ DkX B w' d (Hv.emptyS z z n S) (k + z + 10) ∧ LFr B l w w' := by
 have HSZ : Hid (S.size ≤ 4096) := Lib.hid hD.ok.size
 have HLB : Hid (B ≤ l) := Lib.hid hL.low
 have HL := Lib.hid hL
 have HD := Lib.hid hD
 have HE := Lib.hid hE
 have HU := Lib.hid hu
 have HV := Lib.hid hv
 clear hL hD hE hu hv
 go_enter Tryd.func29, Tryd.ntmps29
 go_wp2_with fail
 obtain ⟨w1, hw1⟩ : ∃ w1, w1 = w.drew := ⟨_, rfl⟩
 have HB1 : Hid (Below w.heap.size w w1) := Lib.hid (by rw [hw1]; exact below_drewN (Below.refl _ _) 1)
 have HL1 := Lib.hid (HL.out.below HB1.out)
 have HD1 := Lib.hid (HD.out.below HB1.out)
 have HE1 := Lib.hid (HE.out.below HB1.out)
 have HF1 : Hid (LFr B l w w1) := Lib.hid (LFr.below HB1.out)
 refine wp_region_held (S := (fun w' => Blk w' l 59 (logCells d z 0 n0 v m false))) (by kernel_rfl) ?_
 change wpAnyH _ _ _ _ _ _ _ _ w.drew
 rw [← hw1]
 clear hw1
 refine wpAnyH_take (i := 0) (v := ?_) rfl (by kernel_rfl) (by kernel_rfl) (by kernel_rfl) (fun _ _ _ h => h) (Or.inl ⟨by rfl, ?_⟩) (HL1.out.blk) ?_
 rotate_left
 ·intro w _; go_simp; with_reducible rfl
 try simp only [Act.put, List.getElem_toArray, List.getElem_cons_zero, List.setIfInBounds_toArray, List.set_cons_zero, List.set_cons_succ]
 refine wpAnyH_take (i := 1) (v := ?_) rfl (by kernel_rfl) (by kernel_rfl) (by kernel_rfl) (fun _ _ _ h => h) (Or.inl ⟨by rfl, ?_⟩) (HL1.out.blk) ?_
 rotate_left
 ·intro w _; go_simp; with_reducible rfl
 try simp only [Act.put, List.getElem_toArray, List.getElem_cons_zero, List.getElem_cons_succ, List.setIfInBounds_toArray, List.set_cons_zero, List.set_cons_succ]
 refine wpAnyH_take (i := 2) (v := ?_) rfl (by kernel_rfl) (by kernel_rfl) (by kernel_rfl) (fun _ _ _ h => h) (Or.inl ⟨by rfl, ?_⟩) (HL1.out.blk) ?_
 rotate_left
 ·intro w _; go_simp; with_reducible rfl
 try simp only [Act.put, List.getElem_toArray, List.getElem_cons_zero, List.getElem_cons_succ, List.setIfInBounds_toArray, List.set_cons_zero, List.set_cons_succ]
 refine wpAnyH_take (i := 3) (v := ?_) rfl (by kernel_rfl) (by kernel_rfl) (by kernel_rfl) (fun _ _ _ h => h) (Or.inl ⟨by rfl, ?_⟩) (HL1.out.blk) ?_
 rotate_left
 ·intro w _; go_simp; with_reducible rfl
 try simp only [Act.put, List.getElem_toArray, List.getElem_cons_zero, List.getElem_cons_succ, List.setIfInBounds_toArray, List.set_cons_zero, List.set_cons_succ]
 refine wpAnyH_take (i := 4) (v := ?_) rfl (by kernel_rfl) (by kernel_rfl) (by kernel_rfl) (fun _ _ _ h => h) (Or.inl ⟨by rfl, ?_⟩) (HL1.out.blk) ?_
 rotate_left
 ·intro w _; go_simp; with_reducible rfl
 try simp only [Act.put, List.getElem_toArray, List.getElem_cons_zero, List.getElem_cons_succ, List.setIfInBounds_toArray, List.set_cons_zero, List.set_cons_succ]
 refine wpAnyH_take (i := 5) rfl (by kernel_rfl) (by kernel_rfl) (by kernel_rfl) (fun _ _ _ h => h) (yieldsIf_load_mid (by rfl) 56 (.tmp 15) rfl l 3 rfl [.pointer (some ⟨d, 0, none⟩), .int .i64 (z : Int), .int .i64 (z : Int)] _ (fun w' hS => half_range1 hS) Tryd.underlying56 rfl (by kernel_rfl)) (HL1.out.blk) ?_
 try simp only [Act.put, List.getElem_toArray, List.getElem_cons_zero, List.getElem_cons_succ, List.setIfInBounds_toArray, List.set_cons_zero, List.set_cons_succ]
 refine wpAnyH_take (i := 6) (v := ?_) rfl (by kernel_rfl) (by kernel_rfl) (by kernel_rfl) (fun _ _ _ h => h) (Or.inl ⟨by rfl, ?_⟩) (HL1.out.blk) ?_
 rotate_left
 ·intro w _; go_simp; with_reducible rfl
 try simp only [Act.put, List.getElem_toArray, List.getElem_cons_zero, List.getElem_cons_succ, List.setIfInBounds_toArray, List.set_cons_zero, List.set_cons_succ]
 have CN := nextSerial_any a w0 w1 HL1.out HD1.out HU.out.1 (by omega) hi HE1.out s0 t0 s1 t1 n h0 h1 hn htop
 have CM := nextSerial_any a w0 (w1.alloc (.cells #[.pointer none, .int .i64 0, .int .i64 0] 56)) (HL1.out.below (below_al w1 _)) (HD1.out.below (below_al w1 _)) HU.out.1 (by omega) hi (HE1.out.below (below_al w1 _)) s0 t0 s1 t1 n h0 h1 hn htop
 clear hn h0 h1
 refine all_two (i := 7) (j := 8) (by kernel_rfl) rfl rfl (by rfl) (by rfl) (fun K hK => ?_) (fun K hK => ?_)
 ·go_simp
  refine CN.mono ?_
  rintro e w2 ⟨rfl, hb2⟩
  dsimp only
  refine hK _ _ (HL1.out.below hb2).blk ?_; clear hK K CM
  try simp only [Act.put, List.getElem_toArray, List.getElem_cons_zero, List.getElem_cons_succ, List.setIfInBounds_toArray, List.set_cons_zero, List.set_cons_succ]
  refine all_one (i := 8) (by kernel_rfl) rfl (by rfl) (fun K hK => ?_)
  go_simp
  refine hK _ _ ((HL1.out.below hb2).blk.alloc _) ?_; clear hK K
  try simp only [Act.put, List.getElem_toArray, List.getElem_cons_zero, List.getElem_cons_succ, List.setIfInBounds_toArray, List.set_cons_zero, List.set_cons_succ]
  obtain ⟨w5, hw5⟩ : ∃ w5, w5 = (w2.alloc (.cells #[.pointer none, .int .i64 0, .int .i64 0] 56)).setRow w2.heap.size #[.pointer (some ⟨d, 0, none⟩), .int .i64 (z : Int), .int .i64 (z : Int)] := ⟨_, rfl⟩
  have HB5 : Hid (Below w1.heap.size w1 w5) := Lib.hid (by rw [hw5]; exact below_then hb2 (below_row (below_al w2 _) (Nat.le_refl _) _))
  have HK5 : Hid (Blk w5 w2.heap.size 56 #[.pointer (some ⟨d, 0, none⟩), .int .i64 (z : Int), .int .i64 (z : Int)]) := Lib.hid (by rw [hw5]; exact (Blk.new w2 _ _).row _)
  have HL5 := Lib.hid (HL1.out.below HB5.out)
  refine all_one (i := 9) (by kernel_rfl) rfl (by rfl) (fun K hK => ?_)
  refine wp_store_row 56 (.tmp 6) (.tmp 16) rfl w2.heap.size #[.pointer (some ⟨d, 0, none⟩), .int .i64 (z : Int), .int .i64 (z : Int)] rfl rfl 56 #[.pointer none, .int .i64 0, .int .i64 0] (Blk.new w2 _ _) (by kernel_rfl) rfl (by simp [Value.oneCell']) ?_
  rw [← hw5]
  refine hK _ _ HL5.out.blk ?_; clear hK K
  try simp only [Act.put, List.getElem_toArray, List.getElem_cons_zero, List.getElem_cons_succ]
  refine wpAnyH_take (i := 10) (v := ?_) rfl (by kernel_rfl) (by kernel_rfl) (by kernel_rfl) (fun _ _ _ h => h) (Or.inl ⟨by rfl, ?_⟩) (HL5.out.blk) ?_
  rotate_left
  ·intro w _; go_simp; with_reducible rfl
  try simp only [Act.put, List.getElem_toArray, List.getElem_cons_zero, List.getElem_cons_succ, List.setIfInBounds_toArray, List.set_cons_zero, List.set_cons_succ]
  refine wpAnyH_take (i := 11) (v := ?_) rfl (by kernel_rfl) (by kernel_rfl) (by kernel_rfl) (fun _ _ _ h => h) (Or.inl ⟨by rfl, ?_⟩) (HL5.out.blk) ?_
  rotate_left
  ·intro w _; go_simp; with_reducible rfl
  try simp only [Act.put, List.getElem_toArray, List.getElem_cons_zero, List.getElem_cons_succ, List.setIfInBounds_toArray, List.set_cons_zero, List.set_cons_succ]
  refine wpAnyH_done (by kernel_rfl) ?_ _
  obtain ⟨g5, hg5⟩ : ∃ g5, g5 = w2.heap.size := ⟨_, rfl⟩
  rw [← hg5] at HK5 ⊢
  clear hw5 hg5 hb2
  have HD5 := Lib.hid (HD1.out.below HB5.out)
  have HE5 := Lib.hid (HE1.out.below HB5.out)
  have HF5 := Lib.hid (HF1.out.trans (LFr.below HB5.out))
  have HNE : Hid (g5 ≠ l) := Lib.hid (blk_ne HK5.out HL5.out.blk (by decide))
  have CB := hbegin_any z z n a w0 w5 HD5.out (by omega) (by omega) (by have := HSZ.out; omega) htop HE5.out
  rw [HU.out.begin.1] at CB
  dsimp only at CB
  unfold halfV at CB
  go_wp2_with (refine wpList_load_row rfl 56 (.tmp 6) rfl g5 rfl 56 _ (0,0) _ HK5.out Tryd.underlying56 rfl (by kernel_rfl) ?_)
  go_at_call 36
  refine CB.mono ?_
  rintro e w6 ⟨rfl, hd6, ht6⟩
  have HD6 := Lib.hid hd6
  have HL6 := Lib.hid (HL5.out.tfr ht6)
  have HE6 := Lib.hid (HE5.out.tfr ht6)
  have HF6 := Lib.hid (HF5.out.trans (LFr.of ht6))
  have HK6 : Hid (Blk w6 g5 56 #[.pointer (some ⟨d, 0, none⟩), .int .i64 (z : Int), .int .i64 (z : Int)]) := Lib.hid (ht6.typed _ _ _ HK5.out (by decide) (by decide))
  unfold outc
  rw [if_pos rfl]
  clear hd6 ht6 CB
  go_wp2_with fail
  refine wp_loop_rounds 1 ?_
  rw [rounds_succ]
  have HU6 : Hid (Hv.Up (Hv.begunS z z n S)) := Lib.hid (HU.out.begin).2
  have CS := xsync_any z z (a 15) w6 HD6.out (by have := HSZ.out; omega) HE6.out.down (HE6.out.ne HD6.out)
  rw [HU6.out.done] at CS
  unfold halfV at CS
  go_wp2_with (refine wpList_load_row rfl 56 (.tmp 6) rfl g5 rfl 56 _ (0,0) _ HK6.out Tryd.underlying56 rfl (by kernel_rfl) ?_)
  go_at_call 26
  refine CS.mono ?_
  rintro e w7 ⟨rfl, hd7, ht7⟩
  have HD7 := Lib.hid hd7
  have HL7 := Lib.hid (HL6.out.tfr ht7)
  have HE7 := Lib.hid (HE6.out.tfr ht7)
  have HF7 := Lib.hid (HF6.out.trans (LFr.of ht7))
  have HK7 : Hid (Blk w7 g5 56 #[.pointer (some ⟨d, 0, none⟩), .int .i64 (z : Int), .int .i64 (z : Int)]) := Lib.hid (ht7.typed _ _ _ HK6.out (by decide) (by decide))
  unfold outc
  rw [if_pos rfl]
  clear hd7 ht7 CS
  have CF := hfinish_any z z n a w0 w7 HD7.out (by rw [(syncs_nums _).1, Hv.begunS_size]; omega) (by have := HSZ.out; omega) htop HE7.out
  rw [HU6.out.syncs.finish.1] at CF
  dsimp only at CF
  unfold halfV at CF
  go_wp2_with (refine wpList_load_row rfl 56 (.tmp 6) rfl g5 rfl 56 _ (0,0) _ HK7.out Tryd.underlying56 rfl (by kernel_rfl) ?_)
  go_at_call 37
  refine CF.mono ?_
  rintro e w8 ⟨rfl, hd8, ht8⟩
  have HD8 := Lib.hid hd8
  have HL8 := Lib.hid (HL7.out.tfr ht8)
  have HE8 := Lib.hid (HE7.out.tfr ht8)
  have HF8 := Lib.hid (HF7.out.trans (LFr.of ht8))
  have HK8 : Hid (Blk w8 g5 56 #[.pointer (some ⟨d, 0, none⟩), .int .i64 (z : Int), .int .i64 (z : Int)]) := Lib.hid (ht8.typed _ _ _ HK7.out (by decide) (by decide))
  unfold outc
  rw [if_pos rfl]
  clear hd8 ht8 CF
  go_wp2_with fail
  have CC := copies_any _ [] [] w8 (rdLL_nil w8) (by simp) (by simp)
  go_at_call 30
  refine CC.mono ?_
  rintro e w10 ⟨v10, rfl, ⟨us, hr10⟩, hb10⟩
  obtain ⟨A, c, rfl⟩ := row_slice hr10.row
  have HL10 := Lib.hid (HL8.out.below hb10)
  have HD10 := Lib.hid (HD8.out.below hb10)
  have HF10 := Lib.hid (HF8.out.trans (LFr.below hb10))
  have HR10 : Hid (Recs B w10 (.slice A 0 c) us []) := Lib.hid (hr10.mono (by have := HD8.out.lt; omega))
  clear hr10 hb10 CC
  have q6 : w10.cell? ⟨l, 6, none⟩ = some (.int .i64 0) := HL10.out.blk.cell 6
  have z6 : w10.frozen? ⟨l, 6, none⟩ = false := HL10.out.blk.frozen 6
  have k6 := (HL10.out.blk).set_ 6 (.int .i64 1)
  have rr6 := (HR10.out).far (HL10.out.blk) 6 (.int .i64 1)
  have q7 : (w10.setCell ⟨l, 6, none⟩ (.int .i64 1)).cell? ⟨l, 7, none⟩ = some (.int .i64 (n0 : Int)) := k6.cell 7
  have z7 : (w10.setCell ⟨l, 6, none⟩ (.int .i64 1)).frozen? ⟨l, 7, none⟩ = false := k6.frozen 7
  have k7 := (k6).set_ 7 (.int .i64 (n : Int))
  have rr7 := (rr6).far (k6) 7 (.int .i64 (n : Int))
  have q8 : ((w10.setCell ⟨l, 6, none⟩ (.int .i64 1)).setCell ⟨l, 7, none⟩ (.int .i64 (n : Int))).cell? ⟨l, 8, none⟩ = some (v) := k7.cell 8
  have z8 : ((w10.setCell ⟨l, 6, none⟩ (.int .i64 1)).setCell ⟨l, 7, none⟩ (.int .i64 (n : Int))).frozen? ⟨l, 8, none⟩ = false := k7.frozen 8
  have k8 := (k7).set_ 8 (.slice A 0 c)
  have rr8 := (rr7).far (k7) 8 (.slice A 0 c)
  have q9 : (((w10.setCell ⟨l, 6, none⟩ (.int .i64 1)).setCell ⟨l, 7, none⟩ (.int .i64 (n : Int))).setCell ⟨l, 8, none⟩ (.slice A 0 c)).cell? ⟨l, 9, none⟩ = some (.int .i64 (m : Int)) := k8.cell 9
  have z9 : (((w10.setCell ⟨l, 6, none⟩ (.int .i64 1)).setCell ⟨l, 7, none⟩ (.int .i64 (n : Int))).setCell ⟨l, 8, none⟩ (.slice A 0 c)).frozen? ⟨l, 9, none⟩ = false := k8.frozen 9
  have k9 := (k8).set_ 9 (.int .i64 1)
  have rr9 := (rr8).far (k8) 9 (.int .i64 1)
  obtain ⟨wz, hwz⟩ : ∃ wz, wz = ((((w10.setCell ⟨l, 6, none⟩ (.int .i64 1)).setCell ⟨l, 7, none⟩ (.int .i64 (n : Int))).setCell ⟨l, 8, none⟩ (.slice A 0 c)).setCell ⟨l, 9, none⟩ (.int .i64 1)) := ⟨_, rfl⟩
  have HLZ : Hid (LogAt B wz l d z 1 n (.slice A 0 c) 1 false) := Lib.hid (by rw [hwz]; exact ⟨k9, HLB.out⟩)
  have HRZ : Hid (Recs B wz (.slice A 0 c) us []) := Lib.hid (by rw [hwz]; exact rr9)
  have HDZ : Hid (DkX B wz d (Hv.emptyS z z n S) _) := Lib.hid (by rw [hwz]; exact dk_set2 (dk_set2 HD10.out HL10.out.blk _ _ _ _) k7 _ _ _ _)
  have HFZ : Hid (LFr B l w wz) := Lib.hid (by rw [hwz]; exact (((HF10.out.trans (LFr.set HLB.out _ _)).trans (LFr.set HLB.out _ _)).trans (LFr.set HLB.out _ _)).trans (LFr.set HLB.out _ _))
  clear k6 k7 k8 k9 rr6 rr7 rr8 rr9
  go_wp2_with (rw [← hwz])
  go_end0
  exact ⟨rfl, ⟨_, HLZ.out, _, HRZ.out⟩, HDZ.out.mono (by omega), HFZ.out⟩
 ·go_simp
  refine hK _ _ (HL1.out.blk.alloc _) ?_; clear hK K CN
  try simp only [Act.put, List.getElem_toArray, List.getElem_cons_zero, List.getElem_cons_succ, List.setIfInBounds_toArray, List.set_cons_zero, List.set_cons_succ]
  refine all_one (i := 7) (by kernel_rfl) rfl (by rfl) (fun K hK => ?_)
  go_simp
  refine CM.mono ?_
  rintro e w2 ⟨rfl, hb2⟩
  have hb3 := below_then (below_al w1 _) hb2
  dsimp only
  refine hK _ _ (HL1.out.below hb3).blk ?_; clear hK K
  try simp only [Act.put, List.getElem_toArray, List.getElem_cons_zero, List.getElem_cons_succ, List.setIfInBounds_toArray, List.set_cons_zero, List.set_cons_succ]
  have hk2 : Blk w2 w1.heap.size 56 #[.pointer none, .int .i64 0, .int .i64 0] := (Blk.new w1 _ _).below hb2 (Blk.new w1 _ _).lt
  obtain ⟨w5, hw5⟩ : ∃ w5, w5 = w2.setRow w1.heap.size #[.pointer (some ⟨d, 0, none⟩), .int .i64 (z : Int), .int .i64 (z : Int)] := ⟨_, rfl⟩
  have HB5 : Hid (Below w1.heap.size w1 w5) := Lib.hid (by rw [hw5]; exact below_row hb3 (Nat.le_refl _) _)
  have HK5 : Hid (Blk w5 w1.heap.size 56 #[.pointer (some ⟨d, 0, none⟩), .int .i64 (z : Int), .int .i64 (z : Int)]) := Lib.hid (by rw [hw5]; exact hk2.row _)
  have HL5 := Lib.hid (HL1.out.below HB5.out)
  refine all_one (i := 9) (by kernel_rfl) rfl (by rfl) (fun K hK => ?_)
  refine wp_store_row 56 (.tmp 6) (.tmp 16) rfl w1.heap.size #[.pointer (some ⟨d, 0, none⟩), .int .i64 (z : Int), .int .i64 (z : Int)] rfl rfl 56 #[.pointer none, .int .i64 0, .int .i64 0] (hk2) (by kernel_rfl) rfl (by simp [Value.oneCell']) ?_
  rw [← hw5]
  refine hK _ _ HL5.out.blk ?_; clear hK K
  try simp only [Act.put, List.getElem_toArray, List.getElem_cons_zero, List.getElem_cons_succ]
  refine wpAnyH_take (i := 10) (v := ?_) rfl (by kernel_rfl) (by kernel_rfl) (by kernel_rfl) (fun _ _ _ h => h) (Or.inl ⟨by rfl, ?_⟩) (HL5.out.blk) ?_
  rotate_left
  ·intro w _; go_simp; with_reducible rfl
  try simp only [Act.put, List.getElem_toArray, List.getElem_cons_zero, List.getElem_cons_succ, List.setIfInBounds_toArray, List.set_cons_zero, List.set_cons_succ]
  refine wpAnyH_take (i := 11) (v := ?_) rfl (by kernel_rfl) (by kernel_rfl) (by kernel_rfl) (fun _ _ _ h => h) (Or.inl ⟨by rfl, ?_⟩) (HL5.out.blk) ?_
  rotate_left
  ·intro w _; go_simp; with_reducible rfl
  try simp only [Act.put, List.getElem_toArray, List.getElem_cons_zero, List.getElem_cons_succ, List.setIfInBounds_toArray, List.set_cons_zero, List.set_cons_succ]
  refine wpAnyH_done (by kernel_rfl) ?_ _
  obtain ⟨g5, hg5⟩ : ∃ g5, g5 = w1.heap.size := ⟨_, rfl⟩
  rw [← hg5] at HK5 ⊢
  clear hw5 hg5 hb2 hb3 hk2
  have HD5 := Lib.hid (HD1.out.below HB5.out)
  have HE5 := Lib.hid (HE1.out.below HB5.out)
  have HF5 := Lib.hid (HF1.out.trans (LFr.below HB5.out))
  have HNE : Hid (g5 ≠ l) := Lib.hid (blk_ne HK5.out HL5.out.blk (by decide))
  have CB := hbegin_any z z n a w0 w5 HD5.out (by omega) (by omega) (by have := HSZ.out; omega) htop HE5.out
  rw [HU.out.begin.1] at CB
  dsimp only at CB
  unfold halfV at CB
  go_wp2_with (refine wpList_load_row rfl 56 (.tmp 6) rfl g5 rfl 56 _ (0,0) _ HK5.out Tryd.underlying56 rfl (by kernel_rfl) ?_)
  go_at_call 36
  refine CB.mono ?_
  rintro e w6 ⟨rfl, hd6, ht6⟩
  have HD6 := Lib.hid hd6
  have HL6 := Lib.hid (HL5.out.tfr ht6)
  have HE6 := Lib.hid (HE5.out.tfr ht6)
  have HF6 := Lib.hid (HF5.out.trans (LFr.of ht6))
  have HK6 : Hid (Blk w6 g5 56 #[.pointer (some ⟨d, 0, none⟩), .int .i64 (z : Int), .int .i64 (z : Int)]) := Lib.hid (ht6.typed _ _ _ HK5.out (by decide) (by decide))
  unfold outc
  rw [if_pos rfl]
  clear hd6 ht6 CB
  go_wp2_with fail
  refine wp_loop_rounds 1 ?_
  rw [rounds_succ]
  have HU6 : Hid (Hv.Up (Hv.begunS z z n S)) := Lib.hid (HU.out.begin).2
  have CS := xsync_any z z (a 15) w6 HD6.out (by have := HSZ.out; omega) HE6.out.down (HE6.out.ne HD6.out)
  rw [HU6.out.done] at CS
  unfold halfV at CS
  go_wp2_with (refine wpList_load_row rfl 56 (.tmp 6) rfl g5 rfl 56 _ (0,0) _ HK6.out Tryd.underlying56 rfl (by kernel_rfl) ?_)
  go_at_call 26
  refine CS.mono ?_
  rintro e w7 ⟨rfl, hd7, ht7⟩
  have HD7 := Lib.hid hd7
  have HL7 := Lib.hid (HL6.out.tfr ht7)
  have HE7 := Lib.hid (HE6.out.tfr ht7)
  have HF7 := Lib.hid (HF6.out.trans (LFr.of ht7))
  have HK7 : Hid (Blk w7 g5 56 #[.pointer (some ⟨d, 0, none⟩), .int .i64 (z : Int), .int .i64 (z : Int)]) := Lib.hid (ht7.typed _ _ _ HK6.out (by decide) (by decide))
  unfold outc
  rw [if_pos rfl]
  clear hd7 ht7 CS
  have CF := hfinish_any z z n a w0 w7 HD7.out (by rw [(syncs_nums _).1, Hv.begunS_size]; omega) (by have := HSZ.out; omega) htop HE7.out
  rw [HU6.out.syncs.finish.1] at CF
  dsimp only at CF
  unfold halfV at CF
  go_wp2_with (refine wpList_load_row rfl 56 (.tmp 6) rfl g5 rfl 56 _ (0,0) _ HK7.out Tryd.underlying56 rfl (by kernel_rfl) ?_)
  go_at_call 37
  refine CF.mono ?_
  rintro e w8 ⟨rfl, hd8, ht8⟩
  have HD8 := Lib.hid hd8
  have HL8 := Lib.hid (HL7.out.tfr ht8)
  have HE8 := Lib.hid (HE7.out.tfr ht8)
  have HF8 := Lib.hid (HF7.out.trans (LFr.of ht8))
  have HK8 : Hid (Blk w8 g5 56 #[.pointer (some ⟨d, 0, none⟩), .int .i64 (z : Int), .int .i64 (z : Int)]) := Lib.hid (ht8.typed _ _ _ HK7.out (by decide) (by decide))
  unfold outc
  rw [if_pos rfl]
  clear hd8 ht8 CF
  go_wp2_with fail
  have CC := copies_any _ [] [] w8 (rdLL_nil w8) (by simp) (by simp)
  go_at_call 30
  refine CC.mono ?_
  rintro e w10 ⟨v10, rfl, ⟨us, hr10⟩, hb10⟩
  obtain ⟨A, c, rfl⟩ := row_slice hr10.row
  have HL10 := Lib.hid (HL8.out.below hb10)
  have HD10 := Lib.hid (HD8.out.below hb10)
  have HF10 := Lib.hid (HF8.out.trans (LFr.below hb10))
  have HR10 : Hid (Recs B w10 (.slice A 0 c) us []) := Lib.hid (hr10.mono (by have := HD8.out.lt; omega))
  clear hr10 hb10 CC
  have q6 : w10.cell? ⟨l, 6, none⟩ = some (.int .i64 0) := HL10.out.blk.cell 6
  have z6 : w10.frozen? ⟨l, 6, none⟩ = false := HL10.out.blk.frozen 6
  have k6 := (HL10.out.blk).set_ 6 (.int .i64 1)
  have rr6 := (HR10.out).far (HL10.out.blk) 6 (.int .i64 1)
  have q7 : (w10.setCell ⟨l, 6, none⟩ (.int .i64 1)).cell? ⟨l, 7, none⟩ = some (.int .i64 (n0 : Int)) := k6.cell 7
  have z7 : (w10.setCell ⟨l, 6, none⟩ (.int .i64 1)).frozen? ⟨l, 7, none⟩ = false := k6.frozen 7
  have k7 := (k6).set_ 7 (.int .i64 (n : Int))
  have rr7 := (rr6).far (k6) 7 (.int .i64 (n : Int))
  have q8 : ((w10.setCell ⟨l, 6, none⟩ (.int .i64 1)).setCell ⟨l, 7, none⟩ (.int .i64 (n : Int))).cell? ⟨l, 8, none⟩ = some (v) := k7.cell 8
  have z8 : ((w10.setCell ⟨l, 6, none⟩ (.int .i64 1)).setCell ⟨l, 7, none⟩ (.int .i64 (n : Int))).frozen? ⟨l, 8, none⟩ = false := k7.frozen 8
  have k8 := (k7).set_ 8 (.slice A 0 c)
  have rr8 := (rr7).far (k7) 8 (.slice A 0 c)
  have q9 : (((w10.setCell ⟨l, 6, none⟩ (.int .i64 1)).setCell ⟨l, 7, none⟩ (.int .i64 (n : Int))).setCell ⟨l, 8, none⟩ (.slice A 0 c)).cell? ⟨l, 9, none⟩ = some (.int .i64 (m : Int)) := k8.cell 9
  have z9 : (((w10.setCell ⟨l, 6, none⟩ (.int .i64 1)).setCell ⟨l, 7, none⟩ (.int .i64 (n : Int))).setCell ⟨l, 8, none⟩ (.slice A 0 c)).frozen? ⟨l, 9, none⟩ = false := k8.frozen 9
  have k9 := (k8).set_ 9 (.int .i64 1)
  have rr9 := (rr8).far (k8) 9 (.int .i64 1)
  obtain ⟨wz, hwz⟩ : ∃ wz, wz = ((((w10.setCell ⟨l, 6, none⟩ (.int .i64 1)).setCell ⟨l, 7, none⟩ (.int .i64 (n : Int))).setCell ⟨l, 8, none⟩ (.slice A 0 c)).setCell ⟨l, 9, none⟩ (.int .i64 1)) := ⟨_, rfl⟩
  have HLZ : Hid (LogAt B wz l d z 1 n (.slice A 0 c) 1 false) := Lib.hid (by rw [hwz]; exact ⟨k9, HLB.out⟩)
  have HRZ : Hid (Recs B wz (.slice A 0 c) us []) := Lib.hid (by rw [hwz]; exact rr9)
  have HDZ : Hid (DkX B wz d (Hv.emptyS z z n S) _) := Lib.hid (by rw [hwz]; exact dk_set2 (dk_set2 HD10.out HL10.out.blk _ _ _ _) k7 _ _ _ _)
  have HFZ : Hid (LFr B l w wz) := Lib.hid (by rw [hwz]; exact (((HF10.out.trans (LFr.set HLB.out _ _)).trans (LFr.set HLB.out _ _)).trans (LFr.set HLB.out _ _)).trans (LFr.set HLB.out _ _))
  clear k6 k7 k8 k9 rr6 rr7 rr8 rr9
  go_wp2_with (rw [← hwz])
  go_end0
  exact ⟨rfl, ⟨_, HLZ.out, _, HRZ.out⟩, HDZ.out.mono (by omega), HFZ.out⟩
end Go.Proofs.YtdokojlgcplefaaDoor
/- Layer 5: what an Append leaves of all other sectors. -/
namespace Go.Proofs.YtdokojlgcplefaaDoor
open Go Go.RowKit
namespace Hv
theorem seen_putN_other {f at_ : Nat} {all : List Nat} (j : Nat) : ∀ {r i : Nat} {S : Dk.D} (_ : Up S) (_ : j < f + at_ + i ∨ f + at_ + i + r ≤ j), Dk.seen (putN f at_ all i r S).2 j = Dk.seen S j
 | 0, _, _, _, _ => rfl
 | r + 1, i, S, h, hj => by
  unfold Hv.putN
  rw [andM_yes (show (wrM (f + (at_ + i)) ((all.drop (32 * i)).take 32) S).1 = true from h.done)]
  show Dk.seen (putN f at_ all (i + 1) r (Dk.wrote S (f + (at_ + i)) ((all.drop (32 * i)).take 32))).2 j = _
  rw [seen_putN_other j (h.wrote _ _) (by omega), seen_wrote h, if_neg (by omega)]
theorem seen_laid_other {S : Dk.D} (h : Up S) (f m n p : Nat) (b : List Nat) (j : Nat) (hj : j < f + m ∨ f + m + need (b.length : Int) ≤ j) : Dk.seen (laidS f m n p b S) j = Dk.seen S j := by
 unfold laidS
 rw [seen_syncs h.put.2.1]
 unfold putM
 exact seen_putN_other j h (by omega)
end Hv
end Go.Proofs.YtdokojlgcplefaaDoor
