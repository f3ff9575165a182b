/- The walk of a digest (sha.Sum). -/
import Derived.Test.YtgjcfmgaioiogaaDoorShaEnd
namespace Go.Proofs.YtgjcfmgaioiogaaDoor
open Go Go.RowKit
/-- Bytes that a slice value holds. -/
def Rd (w : World) (v : Value) (xs : List Nat) : Prop :=
  ∃ A c, v = .slice A xs.length c ∧ xs.length ≤ c ∧ (0 < xs.length → ∃ b o, A = some ⟨b, o, none⟩ ∧ b < w.heap.size ∧ ∀ i, i < xs.length → w.cell? ⟨b, o + i, none⟩ = some (.int .u8 ((xs.getD i 0 : Nat) : Int)))
theorem Rd.below {w w' : World} {v : Value} {xs : List Nat} (h : Rd w v xs) {B : Nat} (hb : Below B w w') (hB : w.heap.size ≤ B) : Rd w' v xs := by
  obtain ⟨A, c, hv, hc, hA⟩ := h
  refine ⟨A, c, hv, hc, fun h0 => ?_⟩
  obtain ⟨b, o, ha, hl, hx⟩ := hA h0
  have := hb.size
  exact ⟨b, o, ha, by omega, fun i hi => (hb.cell (p := ⟨b, o + i, none⟩) (by show b < B; omega)).trans (hx i hi)⟩
theorem Rd.out {w : World} {v : Value} {xs : List Nat} (h : Rd w v xs) {p : Nat} (hp : w.heap.size ≤ p) : RdB w p v xs := by
  obtain ⟨A, c, hv, hc, hA⟩ := h
  refine ⟨A, c, hv, hc, fun h0 => ?_⟩
  obtain ⟨b, o, ha, hl, hx⟩ := hA h0
  exact ⟨b, o, ha, by omega, hl, hx⟩
theorem Rd.outB {w w' : World} {v : Value} {xs : List Nat} (h : Rd w v xs) {p : Nat} (hp : w.heap.size ≤ p) (hb : Below w.heap.size w w') : RdB w' p v xs := by
  obtain ⟨A, c, hv, hc, hA⟩ := h
  refine ⟨A, c, hv, hc, fun h0 => ?_⟩
  obtain ⟨b, o, ha, hl, hx⟩ := hA h0
  have := hb.size
  exact ⟨b, o, ha, by omega, by omega, fun i hi => (hb.cell (p := ⟨b, o + i, none⟩) (by show b < _; omega)).trans (hx i hi)⟩
/-- A slice of such slices: vs are its cells. -/
def RdL (w : World) (v : Value) (vs : List Value) : Prop :=
  ∃ A c, v = .slice A vs.length c ∧ vs.length ≤ c ∧ (0 < vs.length → ∃ b o, A = some ⟨b, o, none⟩ ∧ b < w.heap.size ∧ ∀ i u, vs[i]? = some u → w.cell? ⟨b, o + i, none⟩ = some u)
theorem start_cells : ((((((((Tryd.zeroCells68.setIfInBounds 0 (.int .u32 1779033703)).setIfInBounds 1 (.int .u32 3144134277)).setIfInBounds 2 (.int .u32 1013904242)).setIfInBounds 3 (.int .u32 2773480762)).setIfInBounds 4 (.int .u32 1359893119)).setIfInBounds 5 (.int .u32 2600822924)).setIfInBounds 6 (.int .u32 528734635)).setIfInBounds 7 (.int .u32 1541459225)) = msgC Sha.H0 (List.replicate 64 0) 0 0 := by kernel_rfl
theorem start_one : (((((((((Tryd.zeroCells68.setIfInBounds 0 (.int .u32 1779033703)).setIfInBounds 1 (.int .u32 3144134277)).setIfInBounds 2 (.int .u32 1013904242)).setIfInBounds 3 (.int .u32 2773480762)).setIfInBounds 4 (.int .u32 1359893119)).setIfInBounds 5 (.int .u32 2600822924)).setIfInBounds 6 (.int .u32 528734635)).setIfInBounds 7 (.int .u32 1541459225))).all (·.oneCell') = true := by kernel_rfl
theorem flat_len : ∀ (l : List (List Nat)) (B : Nat), (∀ ps ∈ l, ps.length ≤ B) → l.flatten.length ≤ l.length * B
  | [], _, _ => by simp
  | a :: l, B, h => by
    have h1 := flat_len l B (fun ps hp => h ps (List.mem_cons_of_mem _ hp))
    have h2 := h a (List.mem_cons_self)
    rw [List.flatten_cons, List.length_append, List.length_cons, Nat.succ_mul]
    omega
theorem msg_info : (Tryd.prog.info? 68).map (·.size) = some 74 := by kernel_rfl
theorem zeroCells_size : Tryd.zeroCells68.size = 74 := by kernel_rfl
set_option maxRecDepth 100000 in
set_option maxHeartbeats 2000000 in
theorem sum_any (v : Value) (vs : List Value) (pss : List (List Nat)) (w : World) (hv : RdL w v vs) (hl : pss.length = vs.length) (hr : ∀ i u, vs[i]? = some u → Rd w u (pss.getD i [])) (hb : ∀ ps ∈ pss, Sha.Byte ps) (ht : Tabs w)
    (hz1 : vs.length < 1048576) (hz2 : ∀ ps ∈ pss, ps.length ≤ 549755813888) :
    Calls Tryd.prog 10 #[v] w fun e w' => e = .returned (.agg (u8s (Sha.sum pss.flatten))) ∧ Below w.heap.size w w' := by
  obtain ⟨A, c, rfl, hc, hA⟩ := hv
  have c0 : w.cell? ⟨0, 0, none⟩ = some (.int .u32 1779033703) := ht.start 0 (by omega)
  have c1 : w.cell? ⟨0, 1, none⟩ = some (.int .u32 3144134277) := ht.start 1 (by omega)
  have c2 : w.cell? ⟨0, 2, none⟩ = some (.int .u32 1013904242) := ht.start 2 (by omega)
  have c3 : w.cell? ⟨0, 3, none⟩ = some (.int .u32 2773480762) := ht.start 3 (by omega)
  have c4 : w.cell? ⟨0, 4, none⟩ = some (.int .u32 1359893119) := ht.start 4 (by omega)
  have c5 : w.cell? ⟨0, 5, none⟩ = some (.int .u32 2600822924) := ht.start 5 (by omega)
  have c6 : w.cell? ⟨0, 6, none⟩ = some (.int .u32 528734635) := ht.start 6 (by omega)
  have c7 : w.cell? ⟨0, 7, none⟩ = some (.int .u32 1541459225) := ht.start 7 (by omega)
  have hg := ht.big.2
  go_enter Tryd.func10, Tryd.ntmps10
  have HBK : Hid (Blk ((w.alloc (.cells (u8s (List.replicate 32 0)) 27)).alloc (.cells Tryd.zeroCells68 68)) (w.heap.size + 1) 68 Tryd.zeroCells68) := by
    have h := Blk.new (w.alloc (.cells (u8s (List.replicate 32 0)) 27)) 68 Tryd.zeroCells68
    have e : (w.alloc (.cells (u8s (List.replicate 32 0)) 27)).heap.size = w.heap.size + 1 := by simp
    rw [e] at h
    exact Lib.hid h
  have HRS : Hid (Blk ((w.alloc (.cells (u8s (List.replicate 32 0)) 27)).alloc (.cells Tryd.zeroCells68 68)) w.heap.size 27 (u8s (List.replicate 32 0))) := Lib.hid ((Blk.new w _ _).alloc _)
  have HBB : Hid (Below w.heap.size w ((w.alloc (.cells (u8s (List.replicate 32 0)) 27)).alloc (.cells Tryd.zeroCells68 68))) := by
    refine Lib.hid (((Below.refl _ _).alloc (Nat.le_refl _) _).alloc ?_ _); simp
  go_wp2_with (first | (refine wpList_store_row rfl 68 (.tmp 3) (.tmp 7) rfl (w.heap.size + 1) _ rfl rfl 68 _ HBK.out ?_ ?_ ?_ ?_))
  case refine_1 => rw [start_cells]; exact msg_info
  case refine_2 => rw [start_cells]; exact zeroCells_size
  case refine_3 => exact start_one
  rw [start_cells]
  have HM : Hid (Took ((((w.alloc (.cells (u8s (List.replicate 32 0)) 27)).alloc (.cells Tryd.zeroCells68 68))).setRow (w.heap.size + 1) (msgC Sha.H0 (List.replicate 64 0) 0 0)) (w.heap.size + 1) [] 0) :=
    Lib.hid ⟨List.replicate 64 0, ⟨rfl, Sha.Byte.zeros 64, fun i hi => absurd hi (by simp)⟩, ⟨HBK.out.row _, rfl, rfl⟩⟩
  have HRS2 := Lib.hid (HRS.out.farRow (g' := w.heap.size + 1) (by omega) (msgC Sha.H0 (List.replicate 64 0) 0 0))
  have HB2 := Lib.hid (below_row HBB.out (g := w.heap.size + 1) (by omega) (msgC Sha.H0 (List.replicate 64 0) 0 0))
  clear HBK HRS HBB c0 c1 c2 c3 c4 c5 c6 c7
  change Code.wp _ _ _ _ (((w.alloc (.cells (u8s (List.replicate 32 0)) 27)).alloc (.cells Tryd.zeroCells68 68)).setRow (w.heap.size + 1) (msgC Sha.H0 (List.replicate 64 0) 0 0))
  generalize ((w.alloc (.cells (u8s (List.replicate 32 0)) 27)).alloc (.cells Tryd.zeroCells68 68)).setRow (w.heap.size + 1) (msgC Sha.H0 (List.replicate 64 0) 0 0) = w1 at HM HRS2 HB2 ⊢
  generalize msgC Sha.H0 (List.replicate 64 0) 0 0 = mc
  go_loopw [10] (fun i wr => ∃ k : Nat, k ≤ vs.length ∧ i = .int .i64 k ∧ Took wr (w.heap.size + 1) (pss.take k).flatten (pss.take k).flatten.length ∧ Below w.heap.size w wr ∧ ∃ cs, cs.size = 32 ∧ Blk wr w.heap.size 27 cs) (fun i _ => vs.length - (intOf i).toNat)
  case atStart => exact ⟨0, by omega, rfl, HM.out, HB2.out, _, by rw [u8s_size]; rfl, HRS2.out⟩
  case round =>
    obtain ⟨k, hk, rfl, hT, hbel, hres⟩ := hrel
    have HRES := Lib.hid hres
    clear hres
    have hp1 : w.heap.size + 1 ≠ 23 := by have := ht.big.1; omega
    have hp2 : w.heap.size + 1 ≠ 0 := by have := ht.big.2; omega
    have hfl := flat_len (pss.take k) 549755813888 (fun ps hps => hz2 ps (List.mem_of_mem_take hps))
    rw [List.length_take] at hfl
    by_cases hlt : k < vs.length
    · obtain ⟨b, o, rfl, hbl, hcell⟩ := hA (by omega)
      have hu := hcell k vs[k] (List.getElem?_eq_getElem hlt)
      have hru := hr k vs[k] (List.getElem?_eq_getElem hlt)
      have hbk := hb (pss.getD k []) (by simp [List.getD, show k < pss.length by omega])
      have hzk := hz2 (pss.getD k []) (by simp [List.getD, show k < pss.length by omega])
      have HTK : Hid ((pss.take (k + 1)).flatten = (pss.take k).flatten ++ pss.getD k []) := by
        apply Lib.hid
        rw [List.take_add_one, List.flatten_append]
        congr 1
        simp [List.getD, show k < pss.length by omega]
      generalize vs[k] = u at hu hru
      generalize pss.getD k [] = pk at hru hbk hzk HTK
      have hcu : wr.cell? ⟨b, o + k, none⟩ = some u := (hbel.cell (p := ⟨b, o + k, none⟩) hbl).trans hu
      have i1 : ((k : Nat) : Int) < vs.length := by omega
      have hmin : k * 549755813888 ≤ 1048576 * 549755813888 := Nat.mul_le_mul_right _ (by omega)
      have hfl2 : (pss.take k).flatten.length ≤ k * 549755813888 := Nat.le_trans hfl (Nat.mul_le_mul_right _ (Nat.min_le_left _ _))
      clear hcell hA hfl hu
      go_wp2_with fail
      refine (add_any (w.heap.size + 1) u _ pk wr hT (hru.outB (Nat.le_succ _) hbel) hbk (ht.below hbel (Nat.le_refl _)) hp1 hp2 (by omega)).mono ?_
      rintro e w2 ⟨rfl, hT2, hO2⟩
      have HT2 := Lib.hid hT2
      have hb2 := below_of_only hbel hO2 (by omega)
      clear hT2
      go_wp2_with fail
      go_roundw
      case rel =>
        obtain ⟨cs, hz, hc⟩ := HRES.out
        refine ⟨k + 1, by omega, by go_num, by rw [HTK.out]; exact HT2.out, hb2, cs, hz, hc.grown hO2 (fun e => by injection e; omega)⟩
      case measure => simp [intOf]; omega
    · have HK := Lib.hid (show k = vs.length by omega)
      have hfl2 : (pss.take k).flatten.length ≤ 1048576 * 549755813888 := Nat.le_trans hfl (Nat.mul_le_mul_right _ (by omega))
      clear hfl hA
      go_wp2_with fail
      refine (end_any (w.heap.size + 1) _ wr hT (ht.below hbel (Nat.le_refl _)) hp1 hp2 (by omega)).mono ?_
      rintro e w2 ⟨rfl, hO2⟩
      have hb2 := below_of_only hbel hO2 (by omega)
      have HF : Hid ((pss.take k).flatten = pss.flatten) := by
        apply Lib.hid; rw [HK.out, List.take_of_length_le (by omega)]
      rw [HF.out]
      obtain ⟨cs, hz, hc⟩ := HRES.out
      have HZ := Lib.hid hz
      have HC := Lib.hid (hc.grown hO2 (fun e => by injection e; omega))
      have HL := Lib.hid (show (u8s (Sha.sum pss.flatten)).size = 32 by rw [u8s_size]; exact Sha.join_len _)
      clear hz hc
      go_wp2_with (first | (refine wpList_store_row rfl 27 (.tmp 2) (.tmp 17) rfl w.heap.size _ rfl rfl 27 cs HC.out (by rw [HL.out]; exact oid_info) (by rw [HL.out]; exact HZ.out) (u8s_one _) ?_))
      exact bodyPost_ret (v := .agg (u8s (Sha.sum pss.flatten))) (results_cell_row rfl _ _ w.heap.size 27 _ (0, 0) _ rfl (HC.out.row _) Tryd.underlying27 rfl (by rw [HL.out]; exact oid_info)) rfl ⟨rfl, below_row hb2 (Nat.le_refl _) _⟩
end Go.Proofs.YtgjcfmgaioiogaaDoor
