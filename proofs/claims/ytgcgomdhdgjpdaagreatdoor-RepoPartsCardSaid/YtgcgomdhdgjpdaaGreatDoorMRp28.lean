/- The law's Blob. -/
import Derived.Test.YtgcgomdhdgjpdaaGreatDoorMRp12s
import Derived.Test.YtgcgomdhdgjpdaaGreatDoorMRp22s
import Derived.Test.YtgcgomdhdgjpdaaGreatDoorMEn19s
import Derived.Test.YtgcgomdhdgjpdaaGreatDoorMZers
namespace Go.Proofs.YtgcgomdhdgjpdaaGreatDoor
open Go Go.RowKit Go.Maps
theorem bent_built (x y : Int) (A B : Option Addr) (n c m d : Nat) : Tryz.prog.built 32 [(0, .int .i64 x), (1, .int .i64 y), (3, .slice A n c), (4, .slice B m d)] = some #[.int .i64 x, .int .i64 y, .int .i64 0, .slice A n c, .slice B m d] := by kernel_rfl
structure BlS (w w' : World) : Prop where
 bel : Below w.heap.size w w'
 box : Blk w' w.heap.size 41 (u8s Rp.z32)
 res : Blk w' (w.heap.size + 1) 32 zJ
 tx : Blk w' (w.heap.size + 2) 5 #[.int .u8 98, .int .u8 120]
theorem BlS.below {w w' w2 : World} (h : BlS w w') (hb : Below w'.heap.size w' w2) : BlS w w2 := ⟨below_next h.bel hb, h.box.below hb h.box.lt, h.res.below hb h.res.lt, h.tx.below hb h.tx.lt⟩
theorem BlS.rd {w w' : World} (h : BlS w w') : Rd w' (.slice (some ⟨w.heap.size + 2, 0, none⟩) 2 2) Rp.blX := ⟨_, 2, rfl, by decide, fun _ => ⟨w.heap.size + 2, 0, rfl, h.tx.lt, fun i hi => by
 have hi2 : i < 2 := hi
 match i, hi2 with
 | 0, _ => exact h.tx.cell 0
 | 1, _ => exact h.tx.cell 1⟩⟩
theorem BlS.start (w : World) : BlS w (((w.alloc (.cells (u8s Rp.z32) 41)).alloc (.cells zJ 32)).alloc (.cells #[.int .u8 98, .int .u8 120] 5)) := by
 obtain ⟨w1, h1⟩ : ∃ w1, w1 = w.alloc (.cells (u8s Rp.z32) 41) := ⟨_, rfl⟩
 obtain ⟨w2, h2⟩ : ∃ w2, w2 = w1.alloc (.cells zJ 32) := ⟨_, rfl⟩
 obtain ⟨w3, h3⟩ : ∃ w3, w3 = w2.alloc (.cells #[.int .u8 98, .int .u8 120] 5) := ⟨_, rfl⟩
 rw [← h1, ← h2, ← h3]
 have z1 : w1.heap.size = w.heap.size + 1 := by rw [h1]; simp
 have z2 : w2.heap.size = w.heap.size + 2 := by rw [h2]; simp [z1]
 have b1 : Below w.heap.size w w1 := by rw [h1]; exact (Below.refl _ _).alloc (Nat.le_refl _) _
 have b2 : Below w1.heap.size w1 w2 := by rw [h2]; exact (Below.refl _ _).alloc (Nat.le_refl _) _
 have b3 : Below w2.heap.size w2 w3 := by rw [h3]; exact (Below.refl _ _).alloc (Nat.le_refl _) _
 have e1 : Blk w1 w.heap.size 41 (u8s Rp.z32) := by rw [h1]; exact Blk.new w _ _
 have e2 : Blk w2 (w.heap.size + 1) 32 zJ := by have h := Blk.new w1 32 zJ; rw [z1] at h; rw [h2]; exact h
 have e3 : Blk w3 (w.heap.size + 2) 5 #[.int .u8 98, .int .u8 120] := by have h := Blk.new w2 5 #[.int .u8 98, .int .u8 120]; rw [z2] at h; rw [h3]; exact h
 exact ⟨below_next (below_next b1 b2) b3, (e1.below b2 e1.lt).below b3 (by omega), e2.below b3 e2.lt, e3⟩
def BlPost (w : World) (e : Ending) (w' : World) : Prop := ∃ cs U cu O co ts, e = .returned (.agg cs) ∧ EnC w' Rp.blE cs U cu O co ts ∧ Below w.heap.size w w'
theorem bl_fin {w w' : World} {gu gt : Nat} (h : BlS w w') (hu : Blk w' gu 89 (cellsU1 Rp.blU).toArray) (ht : Blk w' gt 46 #[.slice (some ⟨w.heap.size + 2, 0, none⟩) 2 2]) (hg : gu ≠ w.heap.size + 1 ∧ gt ≠ w.heap.size + 1) :
  BlPost w (.returned (.agg #[.int .i64 0, .int .i64 1, .int .i64 0, .slice (some ⟨gu, 0, none⟩) 1 1, .slice (some ⟨gt, 0, none⟩) 1 1])) (w'.setRow (w.heap.size + 1) #[.int .i64 0, .int .i64 1, .int .i64 0, .slice (some ⟨gu, 0, none⟩) 1 1, .slice (some ⟨gt, 0, none⟩) 1 1]) := by
 have hw : w'.grownBy (w'.setRow (w.heap.size + 1) #[.int .i64 0, .int .i64 1, .int .i64 0, .slice (some ⟨gu, 0, none⟩) 1 1, .slice (some ⟨gt, 0, none⟩) 1 1]) (some (w.heap.size + 1)) := only_setRow (World.grownBy.refl w' _) (Or.inl rfl) _
 have hu2 := hu.grown hw (fun e => hg.1 (by injection e))
 have ht2 := ht.grown hw (fun e => hg.2 (by injection e))
 have hx2 := h.tx.grown hw (by simp)
 have hfu : Rp.blU.Fit := ⟨Rp.z32_id, Rp.bl_id⟩
 refine ⟨_, some ⟨gu, 0, none⟩, 1, some ⟨gt, 0, none⟩, 1, [⟨Rp.blX, .slice (some ⟨w.heap.size + 2, 0, none⟩) 2 2⟩], rfl, ⟨rfl, ?_, fun u hu => by rw [List.mem_singleton.1 hu]; exact hfu, ⟨rfl, fun _ => ⟨gt, 0, rfl, ht2.lt, fun i t hi => ?_⟩, fun t ht => ?_⟩, rfl⟩, below_of_only h.bel hw (by omega)⟩
 ·refine ⟨_, 1, rfl, Nat.le_refl _, fun _ => ⟨gu, 0, rfl, hu2.lt, fun j v hj => ?_⟩⟩
  rw [Nat.zero_add, hu2.cell, List.getElem?_toArray]
  have e1 : cellsU Rp.blE.ups = cellsU1 Rp.blU := by
   show cellsU [Rp.blU] = _
   simp [cellsU]
  rw [e1] at hj
  exact hj
 ·match i, hi with
  | 0, hi =>
   have : t = ⟨Rp.blX, .slice (some ⟨w.heap.size + 2, 0, none⟩) 2 2⟩ := by simpa using hi.symm
   rw [this]
   exact ht2.cell 0
 ·rw [List.mem_singleton.1 ht]
  refine ⟨⟨_, 2, rfl, Nat.le_refl 2, fun _ => ⟨w.heap.size + 2, 0, rfl, hx2.lt, fun i hi => ?_⟩⟩, fun i => ?_⟩
  ·have hi2 : i < 2 := hi
   match i, hi2 with
   | 0, _ => exact hx2.cell 0
   | 1, _ => exact hx2.cell 1
  ·show ([98, 120] : List Nat).getD i 0 < 256
   match i with
   | 0 => decide
   | 1 => decide
   | i + 2 => simp
theorem bl_byte : Sha.Byte Rp.blX := fun i => by
 show ([98, 120] : List Nat).getD i 0 < 256
 match i with
 | 0 => decide
 | 1 => decide
 | i + 2 => simp
set_option maxRecDepth 100000 in
set_option maxHeartbeats 4000000 in
theorem blob_any (w : World) (ht : Tabs w) :
  Calls Tryz.prog 19 #[.int .i64 0, .int .i64 1, .string Rp.refA, .agg (u8s Rp.z32), .int .u8 120] w (BlPost w) := by
 have HS0 := Lib.hid (BlS.start w)
 have HT := Lib.hid ht
 obtain ⟨iu, hiu1, hiu2, hiu3, hiu4⟩ := info_parts upd_info
 have HIU : Hid (_ ∧ _ ∧ _ ∧ _) := Lib.hid ⟨hiu1, hiu2, hiu3, hiu4⟩
 obtain ⟨ib, hib1, hib2, hib3, hib4⟩ := info_parts bts_info
 have HIB : Hid (_ ∧ _ ∧ _ ∧ _) := Lib.hid ⟨hib1, hib2, hib3, hib4⟩
 have hfu : Rp.blU.Fit := ⟨Rp.z32_id, Rp.bl_id⟩
 have HFU := Lib.hid hfu
 have HUB := Lib.hid (upd_built Rp.blU hfu)
 have CI := fun w' (hw' : BlS w w') => oid_any Rp.blX (.slice (some ⟨w.heap.size + 2, 0, none⟩) 2 2) w' hw'.rd bl_byte (HT.out.below hw'.bel (Nat.le_refl _)) (by decide)
 have HCI := Lib.hid CI
 clear hiu1 hiu2 hiu3 hiu4 hib1 hib2 hib3 hib4 hfu ht CI
 go_enter Tryz.func19, Tryz.ntmps19
 go_wp2_with fail
 simp only [Nat.add_assoc, Nat.reduceAdd]
 change Code.wp _ _ _ _ (((w.alloc (.cells (u8s Rp.z32) 41)).alloc (.cells zJ 32)).alloc (.cells #[.int .u8 98, .int .u8 120] 5))
 generalize ((w.alloc (.cells (u8s Rp.z32) 41)).alloc (.cells zJ 32)).alloc (.cells #[.int .u8 98, .int .u8 120] 5) = w3 at HS0 ⊢
 have HSX : Hid (BlS w w3.drew) := Lib.hid (HS0.out.below (below_drewN (Below.refl _ _) 1))
 clear HS0
 refine wp_region_upto (S := fun w' => BlS w w') (b := 11) (by kernel_rfl) ?_
 change Upto _ _ _ _ _ _ _ _ _ w3.drew
 generalize w3.drew = w4 at HSX ⊢
 clear w3
 refine Upto.takeY (i := 0) (v := ?_) rfl (by kernel_rfl) (by kernel_rfl) (by kernel_rfl) (by kernel_rfl) (fun _ _ _ h => h) (Or.inl ⟨by rfl, ?_⟩) (fun _ => HSX.out) ?_
 rotate_left
 ·intro w' _; go_simp; with_reducible rfl
 try simp only [Act.put, List.getElem_toArray, List.getElem_cons_zero, List.setIfInBounds_toArray, List.set_cons_zero, List.set_cons_succ]
 refine Upto.takeY (i := 1) (v := ?_) rfl (by kernel_rfl) (by kernel_rfl) (by kernel_rfl) (by kernel_rfl) (fun _ _ _ h => h) (Or.inl ⟨by rfl, ?_⟩) (fun _ => HSX.out) ?_
 rotate_left
 ·intro w' _; go_simp; with_reducible rfl
 try simp only [Act.put, List.getElem_toArray, List.getElem_cons_zero, List.getElem_cons_succ, List.setIfInBounds_toArray, List.set_cons_zero, List.set_cons_succ]
 refine Upto.takeY (i := 2) (v := ?_) rfl (by kernel_rfl) (by kernel_rfl) (by kernel_rfl) (by kernel_rfl) (fun _ _ _ h => h) (Or.inl ⟨by rfl, ?_⟩) (fun _ => HSX.out) ?_
 rotate_left
 ·intro w' _; go_simp; with_reducible rfl
 try simp only [Act.put, List.getElem_toArray, List.getElem_cons_zero, List.getElem_cons_succ, List.setIfInBounds_toArray, List.set_cons_zero, List.set_cons_succ]
 refine Upto.take (i := 3) (v := .agg (u8s Rp.z32)) rfl (by kernel_rfl) (by kernel_rfl) (by kernel_rfl) (by kernel_rfl) (fun _ _ _ h => h) (takes_row 41 (.tmp 8) rfl (by rfl) w.heap.size (by rfl) 41 (u8s Rp.z32) _ (fun w' hS => hS.box) (by first | exact Tryz.underlying41 | kernel_rfl) (by rfl) (by kernel_rfl)) HSX.out ?_
 try simp only [Act.put, List.getElem_toArray, List.getElem_cons_zero, List.getElem_cons_succ, List.setIfInBounds_toArray, List.set_cons_zero, List.set_cons_succ]
 refine Upto.takeY (i := 4) (v := ?_) rfl (by kernel_rfl) (by kernel_rfl) (by kernel_rfl) (by kernel_rfl) (fun _ _ _ h => h) (Or.inl ⟨by rfl, ?_⟩) (fun _ => HSX.out) ?_
 rotate_left
 ·intro w' _; go_simp; with_reducible rfl
 try simp only [Act.put, List.getElem_toArray, List.getElem_cons_zero, List.getElem_cons_succ, List.setIfInBounds_toArray, List.set_cons_zero, List.set_cons_succ]
 refine Upto.takeY (i := 8) (v := ?_) rfl (by kernel_rfl) (by kernel_rfl) (by kernel_rfl) (by kernel_rfl) (fun _ _ _ h => h) (Or.inl ⟨by rfl, ?_⟩) (fun _ => HSX.out) ?_
 rotate_left
 ·intro w' _; go_simp; with_reducible rfl
 try simp only [Act.put, List.getElem_toArray, List.getElem_cons_zero, List.getElem_cons_succ, List.setIfInBounds_toArray, List.set_cons_zero, List.set_cons_succ]
 refine Upto.two (i := 5) (j := 9) (by kernel_rfl) rfl rfl (by rfl) (by rfl) (fun K hK => ?_) (fun K hK => ?_)
 ·go_simp
  refine (HCI.out w4 HSX.out).mono ?_
  rintro x w5 ⟨rfl, hbx⟩
  have HSY : Hid (BlS w w5) := Lib.hid (HSX.out.below hbx)
  clear hbx HSX
  have HSX := HSY
  clear HSY
  refine hK _ _ (fun _ _ => HSX.out) ?_
  clear hK
  try simp only [Act.put, List.getElem_toArray, List.getElem_cons_zero, List.getElem_cons_succ, List.setIfInBounds_toArray, List.set_cons_zero, List.set_cons_succ]
  refine Upto.takeY (i := 6) (v := .agg (cellsU1 Rp.blU).toArray) rfl (by kernel_rfl) (by kernel_rfl) (by kernel_rfl) (by kernel_rfl) (fun _ _ _ h => h) (Or.inl ⟨by rfl, fun w' _ => exec_buildE 89 _ rfl _ (by kernel_rfl) _ HUB.out⟩) (fun _ => HSX.out) ?_
  try simp only [Act.put, List.getElem_toArray, List.getElem_cons_zero, List.getElem_cons_succ, List.setIfInBounds_toArray, List.set_cons_zero, List.set_cons_succ]
  refine Upto.two (i := 7) (j := 9) (by kernel_rfl) rfl rfl (by rfl) (by rfl) (fun K hK => ?_) (fun K hK => ?_)
  ·refine wp_buildSliceK 29 89 1 _ (by rfl) (cellsU1 Rp.blU).toArray iu (.agg (cellsU1 ⟨⟨#[]⟩, List.replicate 32 0, List.replicate 32 0⟩).toArray) Tryz.underlying29 HIU.out.1 HIU.out.2.1 (by rw [HIU.out.2.2.1]; decide) (by rw [HIU.out.2.2.1]; decide) _ (by kernel_rfl) (by rw [HIU.out.2.2.1]; exact fill_one 65 (Value.agg (cellsU1 ⟨⟨#[]⟩, List.replicate 32 0, List.replicate 32 0⟩).toArray).cells _ (cellsU1_len HFU.out) (by rfl)) ?_
   have hbx : Below w5.heap.size w5 (w5.alloc (.cells (cellsU1 Rp.blU).toArray 89)) := (Below.refl _ _).alloc (Nat.le_refl _) _
   have HSY : Hid (BlS w (w5.alloc (.cells (cellsU1 Rp.blU).toArray 89))) := Lib.hid (HSX.out.below hbx)
   have HU := Lib.hid (Blk.new w5 89 (cellsU1 Rp.blU).toArray)
   have Hgu : Hid (w5.heap.size ≠ w.heap.size + 1) := Lib.hid (by have := HSX.out.res.lt; omega)
   clear hbx HSX
   have HSX := HSY
   clear HSY
   refine hK _ _ (fun _ _ => HSX.out) ?_
   clear hK
   generalize w5.alloc (.cells (cellsU1 Rp.blU).toArray 89) = w6 at HSX HU  ⊢
   generalize w5.heap.size = gu at HU Hgu ⊢
   try simp only [Act.put, List.getElem_toArray, List.getElem_cons_zero, List.getElem_cons_succ, List.setIfInBounds_toArray, List.set_cons_zero, List.set_cons_succ]
   refine Upto.one (i := 9) (by kernel_rfl) rfl (by rfl) (fun K hK => ?_)
   go_simp
   have hbx : Below w6.heap.size w6 (w6.alloc (.cells #[.slice (some ⟨w.heap.size + 2, 0, none⟩) 2 2] 46)) := (Below.refl _ _).alloc (Nat.le_refl _) _
   have HSY : Hid (BlS w (w6.alloc (.cells #[.slice (some ⟨w.heap.size + 2, 0, none⟩) 2 2] 46))) := Lib.hid (HSX.out.below hbx)
   have HB := Lib.hid (Blk.new w6 46 #[.slice (some ⟨w.heap.size + 2, 0, none⟩) 2 2])
   have Hgt : Hid (w6.heap.size ≠ w.heap.size + 1) := Lib.hid (by have := HSX.out.res.lt; omega)
   have HU2 : Hid (Blk (w6.alloc (.cells #[.slice (some ⟨w.heap.size + 2, 0, none⟩) 2 2] 46)) _ _ _) := Lib.hid (HU.out.below hbx HU.out.lt)
   clear hbx HSX HU
   have HSX := HSY
   clear HSY
   have HU := HU2
   clear HU2
   refine hK _ _ (fun _ _ => HSX.out) ?_
   clear hK
   generalize w6.alloc (.cells #[.slice (some ⟨w.heap.size + 2, 0, none⟩) 2 2] 46) = w7 at HSX HB HU ⊢
   generalize w6.heap.size = gt at HB Hgt ⊢
   try simp only [Act.put, List.getElem_toArray, List.getElem_cons_zero, List.getElem_cons_succ, List.setIfInBounds_toArray, List.set_cons_zero, List.set_cons_succ]
   refine Upto.takeY (i := 10) (v := .agg #[.int .i64 0, .int .i64 1, .int .i64 0, .slice (some ⟨gu, 0, none⟩) 1 1, .slice (some ⟨gt, 0, none⟩) 1 1]) rfl (by kernel_rfl) (by kernel_rfl) (by kernel_rfl) (by kernel_rfl) (fun _ _ _ h => h) (Or.inl ⟨by rfl, fun w' _ => exec_buildE 32 _ rfl _ (by kernel_rfl) _ (bent_built _ _ _ _ _ _ _ _)⟩) (fun _ => HSX.out) ?_
   try simp only [Act.put, List.getElem_toArray, List.getElem_cons_zero, List.getElem_cons_succ, List.setIfInBounds_toArray, List.set_cons_zero, List.set_cons_succ]
   have HF := Lib.hid (bl_fin HSX.out HU.out HB.out ⟨Hgu.out, Hgt.out⟩)
   have HRS := Lib.hid (HSX.out.res.row #[.int .i64 0, .int .i64 1, .int .i64 0, .slice (some ⟨gu, 0, none⟩) 1 1, .slice (some ⟨gt, 0, none⟩) 1 1])
   refine Upto.one (i := 11) (by kernel_rfl) rfl (by rfl) (fun K hK => ?_)
   refine wp_store_row 32 (.tmp 10) (.tmp 24) (by rfl) (w.heap.size + 1) #[.int .i64 0, .int .i64 1, .int .i64 0, .slice (some ⟨gu, 0, none⟩) 1 1, .slice (some ⟨gt, 0, none⟩) 1 1] (by rfl) (by rfl) 32 zJ HSX.out.res (by kernel_rfl) (by rfl) (by simp [Value.oneCell']) ?_
   refine hK _ _ (fun h => absurd rfl h) ?_
   clear hK
   try simp only [Act.put, List.getElem_toArray, List.getElem_cons_zero, List.getElem_cons_succ]
   refine Upto.done (by kernel_rfl) ?_ _
   go_wp2
   refine bodyPost_ret (v := .agg #[.int .i64 0, .int .i64 1, .int .i64 0, .slice (some ⟨gu, 0, none⟩) 1 1, .slice (some ⟨gt, 0, none⟩) 1 1]) (results_cell_row rfl _ _ (w.heap.size + 1) 32 _ (0, 0) _ rfl HRS.out Tryz.underlying32 rfl (by kernel_rfl)) rfl ?_
   exact HF.out
  ·go_simp
   have hbx : Below w5.heap.size w5 (w5.alloc (.cells #[.slice (some ⟨w.heap.size + 2, 0, none⟩) 2 2] 46)) := (Below.refl _ _).alloc (Nat.le_refl _) _
   have HSY : Hid (BlS w (w5.alloc (.cells #[.slice (some ⟨w.heap.size + 2, 0, none⟩) 2 2] 46))) := Lib.hid (HSX.out.below hbx)
   have HB := Lib.hid (Blk.new w5 46 #[.slice (some ⟨w.heap.size + 2, 0, none⟩) 2 2])
   have Hgt : Hid (w5.heap.size ≠ w.heap.size + 1) := Lib.hid (by have := HSX.out.res.lt; omega)
   clear hbx HSX
   have HSX := HSY
   clear HSY
   refine hK _ _ (fun _ _ => HSX.out) ?_
   clear hK
   generalize w5.alloc (.cells #[.slice (some ⟨w.heap.size + 2, 0, none⟩) 2 2] 46) = w6 at HSX HB  ⊢
   generalize w5.heap.size = gt at HB Hgt ⊢
   try simp only [Act.put, List.getElem_toArray, List.getElem_cons_zero, List.getElem_cons_succ, List.setIfInBounds_toArray, List.set_cons_zero, List.set_cons_succ]
   refine Upto.one (i := 7) (by kernel_rfl) rfl (by rfl) (fun K hK => ?_)
   refine wp_buildSliceK 29 89 1 _ (by rfl) (cellsU1 Rp.blU).toArray iu (.agg (cellsU1 ⟨⟨#[]⟩, List.replicate 32 0, List.replicate 32 0⟩).toArray) Tryz.underlying29 HIU.out.1 HIU.out.2.1 (by rw [HIU.out.2.2.1]; decide) (by rw [HIU.out.2.2.1]; decide) _ (by kernel_rfl) (by rw [HIU.out.2.2.1]; exact fill_one 65 (Value.agg (cellsU1 ⟨⟨#[]⟩, List.replicate 32 0, List.replicate 32 0⟩).toArray).cells _ (cellsU1_len HFU.out) (by rfl)) ?_
   have hbx : Below w6.heap.size w6 (w6.alloc (.cells (cellsU1 Rp.blU).toArray 89)) := (Below.refl _ _).alloc (Nat.le_refl _) _
   have HSY : Hid (BlS w (w6.alloc (.cells (cellsU1 Rp.blU).toArray 89))) := Lib.hid (HSX.out.below hbx)
   have HU := Lib.hid (Blk.new w6 89 (cellsU1 Rp.blU).toArray)
   have Hgu : Hid (w6.heap.size ≠ w.heap.size + 1) := Lib.hid (by have := HSX.out.res.lt; omega)
   have HB2 : Hid (Blk (w6.alloc (.cells (cellsU1 Rp.blU).toArray 89)) _ _ _) := Lib.hid (HB.out.below hbx HB.out.lt)
   clear hbx HSX HB
   have HSX := HSY
   clear HSY
   have HB := HB2
   clear HB2
   refine hK _ _ (fun _ _ => HSX.out) ?_
   clear hK
   generalize w6.alloc (.cells (cellsU1 Rp.blU).toArray 89) = w7 at HSX HU HB ⊢
   generalize w6.heap.size = gu at HU Hgu ⊢
   try simp only [Act.put, List.getElem_toArray, List.getElem_cons_zero, List.getElem_cons_succ, List.setIfInBounds_toArray, List.set_cons_zero, List.set_cons_succ]
   refine Upto.takeY (i := 10) (v := .agg #[.int .i64 0, .int .i64 1, .int .i64 0, .slice (some ⟨gu, 0, none⟩) 1 1, .slice (some ⟨gt, 0, none⟩) 1 1]) rfl (by kernel_rfl) (by kernel_rfl) (by kernel_rfl) (by kernel_rfl) (fun _ _ _ h => h) (Or.inl ⟨by rfl, fun w' _ => exec_buildE 32 _ rfl _ (by kernel_rfl) _ (bent_built _ _ _ _ _ _ _ _)⟩) (fun _ => HSX.out) ?_
   try simp only [Act.put, List.getElem_toArray, List.getElem_cons_zero, List.getElem_cons_succ, List.setIfInBounds_toArray, List.set_cons_zero, List.set_cons_succ]
   have HF := Lib.hid (bl_fin HSX.out HU.out HB.out ⟨Hgu.out, Hgt.out⟩)
   have HRS := Lib.hid (HSX.out.res.row #[.int .i64 0, .int .i64 1, .int .i64 0, .slice (some ⟨gu, 0, none⟩) 1 1, .slice (some ⟨gt, 0, none⟩) 1 1])
   refine Upto.one (i := 11) (by kernel_rfl) rfl (by rfl) (fun K hK => ?_)
   refine wp_store_row 32 (.tmp 10) (.tmp 24) (by rfl) (w.heap.size + 1) #[.int .i64 0, .int .i64 1, .int .i64 0, .slice (some ⟨gu, 0, none⟩) 1 1, .slice (some ⟨gt, 0, none⟩) 1 1] (by rfl) (by rfl) 32 zJ HSX.out.res (by kernel_rfl) (by rfl) (by simp [Value.oneCell']) ?_
   refine hK _ _ (fun h => absurd rfl h) ?_
   clear hK
   try simp only [Act.put, List.getElem_toArray, List.getElem_cons_zero, List.getElem_cons_succ]
   refine Upto.done (by kernel_rfl) ?_ _
   go_wp2
   refine bodyPost_ret (v := .agg #[.int .i64 0, .int .i64 1, .int .i64 0, .slice (some ⟨gu, 0, none⟩) 1 1, .slice (some ⟨gt, 0, none⟩) 1 1]) (results_cell_row rfl _ _ (w.heap.size + 1) 32 _ (0, 0) _ rfl HRS.out Tryz.underlying32 rfl (by kernel_rfl)) rfl ?_
   exact HF.out
 ·go_simp
  have hbx : Below w4.heap.size w4 (w4.alloc (.cells #[.slice (some ⟨w.heap.size + 2, 0, none⟩) 2 2] 46)) := (Below.refl _ _).alloc (Nat.le_refl _) _
  have HSY : Hid (BlS w (w4.alloc (.cells #[.slice (some ⟨w.heap.size + 2, 0, none⟩) 2 2] 46))) := Lib.hid (HSX.out.below hbx)
  have HB := Lib.hid (Blk.new w4 46 #[.slice (some ⟨w.heap.size + 2, 0, none⟩) 2 2])
  have Hgt : Hid (w4.heap.size ≠ w.heap.size + 1) := Lib.hid (by have := HSX.out.res.lt; omega)
  clear hbx HSX
  have HSX := HSY
  clear HSY
  refine hK _ _ (fun _ _ => HSX.out) ?_
  clear hK
  generalize w4.alloc (.cells #[.slice (some ⟨w.heap.size + 2, 0, none⟩) 2 2] 46) = w5 at HSX HB  ⊢
  generalize w4.heap.size = gt at HB Hgt ⊢
  try simp only [Act.put, List.getElem_toArray, List.getElem_cons_zero, List.getElem_cons_succ, List.setIfInBounds_toArray, List.set_cons_zero, List.set_cons_succ]
  refine Upto.one (i := 5) (by kernel_rfl) rfl (by rfl) (fun K hK => ?_)
  go_simp
  refine (HCI.out w5 HSX.out).mono ?_
  rintro x w6 ⟨rfl, hbx⟩
  have HSY : Hid (BlS w w6) := Lib.hid (HSX.out.below hbx)
  have HB2 := Lib.hid (HB.out.below hbx HB.out.lt)
  clear hbx HSX HB
  have HSX := HSY
  clear HSY
  have HB := HB2
  clear HB2
  refine hK _ _ (fun _ _ => HSX.out) ?_
  clear hK
  try simp only [Act.put, List.getElem_toArray, List.getElem_cons_zero, List.getElem_cons_succ, List.setIfInBounds_toArray, List.set_cons_zero, List.set_cons_succ]
  refine Upto.takeY (i := 6) (v := .agg (cellsU1 Rp.blU).toArray) rfl (by kernel_rfl) (by kernel_rfl) (by kernel_rfl) (by kernel_rfl) (fun _ _ _ h => h) (Or.inl ⟨by rfl, fun w' _ => exec_buildE 89 _ rfl _ (by kernel_rfl) _ HUB.out⟩) (fun _ => HSX.out) ?_
  try simp only [Act.put, List.getElem_toArray, List.getElem_cons_zero, List.getElem_cons_succ, List.setIfInBounds_toArray, List.set_cons_zero, List.set_cons_succ]
  refine Upto.one (i := 7) (by kernel_rfl) rfl (by rfl) (fun K hK => ?_)
  refine wp_buildSliceK 29 89 1 _ (by rfl) (cellsU1 Rp.blU).toArray iu (.agg (cellsU1 ⟨⟨#[]⟩, List.replicate 32 0, List.replicate 32 0⟩).toArray) Tryz.underlying29 HIU.out.1 HIU.out.2.1 (by rw [HIU.out.2.2.1]; decide) (by rw [HIU.out.2.2.1]; decide) _ (by kernel_rfl) (by rw [HIU.out.2.2.1]; exact fill_one 65 (Value.agg (cellsU1 ⟨⟨#[]⟩, List.replicate 32 0, List.replicate 32 0⟩).toArray).cells _ (cellsU1_len HFU.out) (by rfl)) ?_
  have hbx : Below w6.heap.size w6 (w6.alloc (.cells (cellsU1 Rp.blU).toArray 89)) := (Below.refl _ _).alloc (Nat.le_refl _) _
  have HSY : Hid (BlS w (w6.alloc (.cells (cellsU1 Rp.blU).toArray 89))) := Lib.hid (HSX.out.below hbx)
  have HU := Lib.hid (Blk.new w6 89 (cellsU1 Rp.blU).toArray)
  have Hgu : Hid (w6.heap.size ≠ w.heap.size + 1) := Lib.hid (by have := HSX.out.res.lt; omega)
  have HB2 : Hid (Blk (w6.alloc (.cells (cellsU1 Rp.blU).toArray 89)) _ _ _) := Lib.hid (HB.out.below hbx HB.out.lt)
  clear hbx HSX HB
  have HSX := HSY
  clear HSY
  have HB := HB2
  clear HB2
  refine hK _ _ (fun _ _ => HSX.out) ?_
  clear hK
  generalize w6.alloc (.cells (cellsU1 Rp.blU).toArray 89) = w7 at HSX HU HB ⊢
  generalize w6.heap.size = gu at HU Hgu ⊢
  try simp only [Act.put, List.getElem_toArray, List.getElem_cons_zero, List.getElem_cons_succ, List.setIfInBounds_toArray, List.set_cons_zero, List.set_cons_succ]
  refine Upto.takeY (i := 10) (v := .agg #[.int .i64 0, .int .i64 1, .int .i64 0, .slice (some ⟨gu, 0, none⟩) 1 1, .slice (some ⟨gt, 0, none⟩) 1 1]) rfl (by kernel_rfl) (by kernel_rfl) (by kernel_rfl) (by kernel_rfl) (fun _ _ _ h => h) (Or.inl ⟨by rfl, fun w' _ => exec_buildE 32 _ rfl _ (by kernel_rfl) _ (bent_built _ _ _ _ _ _ _ _)⟩) (fun _ => HSX.out) ?_
  try simp only [Act.put, List.getElem_toArray, List.getElem_cons_zero, List.getElem_cons_succ, List.setIfInBounds_toArray, List.set_cons_zero, List.set_cons_succ]
  have HF := Lib.hid (bl_fin HSX.out HU.out HB.out ⟨Hgu.out, Hgt.out⟩)
  have HRS := Lib.hid (HSX.out.res.row #[.int .i64 0, .int .i64 1, .int .i64 0, .slice (some ⟨gu, 0, none⟩) 1 1, .slice (some ⟨gt, 0, none⟩) 1 1])
  refine Upto.one (i := 11) (by kernel_rfl) rfl (by rfl) (fun K hK => ?_)
  refine wp_store_row 32 (.tmp 10) (.tmp 24) (by rfl) (w.heap.size + 1) #[.int .i64 0, .int .i64 1, .int .i64 0, .slice (some ⟨gu, 0, none⟩) 1 1, .slice (some ⟨gt, 0, none⟩) 1 1] (by rfl) (by rfl) 32 zJ HSX.out.res (by kernel_rfl) (by rfl) (by simp [Value.oneCell']) ?_
  refine hK _ _ (fun h => absurd rfl h) ?_
  clear hK
  try simp only [Act.put, List.getElem_toArray, List.getElem_cons_zero, List.getElem_cons_succ]
  refine Upto.done (by kernel_rfl) ?_ _
  go_wp2
  refine bodyPost_ret (v := .agg #[.int .i64 0, .int .i64 1, .int .i64 0, .slice (some ⟨gu, 0, none⟩) 1 1, .slice (some ⟨gt, 0, none⟩) 1 1]) (results_cell_row rfl _ _ (w.heap.size + 1) 32 _ (0, 0) _ rfl HRS.out Tryz.underlying32 rfl (by kernel_rfl)) rfl ?_
  exact HF.out
end Go.Proofs.YtgcgomdhdgjpdaaGreatDoor
