/- The walks of cartagenum.Bytes and Kept: a copy with marked room behind, and whether list and room stand as they stood. -/
import Derived.Test.YtolfphfdeccleaaGreatDoorMHelds
import Derived.Laws.AppendOwn
import Derived.Deep.MidRow
import Derived.Test.YtolfphfdeccleaaGreatDoorMPk14s
import Derived.Test.YtolfphfdeccleaaGreatDoorMOct14s
import Derived.Lib.SlBytesConst
namespace Go.Proofs.YtolfphfdeccleaaGreatDoor
open Go Go.RowKit
def marks : List Nat := [201, 202, 203, 204, 205, 206]
/-- A list of bytes with marked room behind. -/
def Marked (w : World) (v : Value) (xs : List Nat) : Prop :=
  ∃ b c, v = .slice (some ⟨b, 0, none⟩) xs.length c ∧ xs.length + 6 ≤ c ∧ c ≤ 9223372036854775807 ∧ b < w.heap.size ∧ ∀ i, i < xs.length + 6 → w.cell? ⟨b, i, none⟩ = some (.int .u8 (((xs ++ marks).getD i 0 : Nat) : Int))
set_option maxRecDepth 100000 in
theorem bytes_any (v : Value) (xs : List Nat) (w : World) (hv : Rd w v xs) (_hb : Sha.Byte xs) (hz : xs.length ≤ 1099511627776) :
    Calls Tryz.prog 7 #[v] w fun e w' => ∃ v', e = .returned v' ∧ Marked w' v' xs ∧ Below w.heap.size w w' := by
  have HV := Lib.hid hv
  obtain ⟨A, c, rfl, hc, hA⟩ := hv
  clear hA
  obtain ⟨n, hn⟩ : ∃ n, n = xs.length := ⟨_, rfl⟩
  rw [← hn] at hz hc HV ⊢
  have HN := Lib.hid hn
  clear hn
  obtain ⟨i0, hi0, hiz, his, hib⟩ := info_parts byte_info
  have hmk : ∀ w' : World, (Instr.makeSlice 22 (.int .i64 0) (.int .i64 ((n : Int) + 6))).run Tryz.prog w' = .ok (.slice (some ⟨w'.heap.size, 0, none⟩) 0 (n + 6)) (w'.alloc (.cells (madeCells #[.int .u8 0] (n + 6)) 5)) := fun w' => by
    have h := run_make (P := Tryz.prog) w' 22 5 i0 _ Tryz.underlying22 hi0 hiz .i64 .i64 0 ((n : Int) + 6) (by omega) (by omega) (by rw [hib]; omega) (by omega)
    rw [his, show ((n : Int) + 6).toNat = n + 6 by omega, Nat.mul_one] at h
    exact h
  obtain ⟨made, hmade⟩ : ∃ made, made = madeCells #[Value.int .u8 0] (n + 6) := ⟨_, rfl⟩
  rw [← hmade] at hmk
  have hms : made.size = (n + 6) * 1 := by rw [hmade, size_madeCells, Nat.mul_one]
  clear hmade hi0 hiz his hib
  have HOWN : Hid ((w.alloc (.cells made 5)).ownsRow w.heap.size 5 1 (.slice (some ⟨w.heap.size, 0, none⟩) 0 (n + 6)) ([] : List Nat).length (cellsB [])) := Lib.hid (World.ownsRow_made w made (n + 6) (Nat.le_refl _) (by unfold maxLen; omega) hms)
  have HB1 : Hid (Below w.heap.size w (w.alloc (.cells made 5))) := Lib.hid ((Below.refl _ _).alloc (Nat.le_refl _) _)
  have HR1 := Lib.hid (rd_alloc HV.out (.cells made 5))
  have HZ := Lib.hid (show ([] : List Nat).length + xs.length ≤ 70368744177664 by rw [← HN.out]; simp; omega)
  have HZ2 := Lib.hid (show xs.length + marks.length ≤ 70368744177664 by rw [← HN.out]; simp [marks]; omega)
  clear hms
  go_enter Tryz.func7, Tryz.ntmps7
  go_wp2_with (first | (refine wpList_appendB rfl (.tmp 7) (.tmp 8) rfl w.heap.size _ [] rfl HOWN.out HB1.out.size _ rfl xs HR1.out HZ.out ?_; intro v1 w1 ho1 hg1; rw [List.nil_append] at ho1; have HO1 := Lib.hid ho1; have HB2 := Lib.hid (below_own HB1.out HOWN.out (Nat.le_refl _) hg1); have HOA := Lib.hid (ownsRow_alloc ho1 (.cells (u8s marks) 5)); have HB3 := Lib.hid (HB2.out.alloc HB2.out.size (.cells (u8s marks) 5)); have HRM := Lib.hid (rd_of_lit w1 marks 5 (by decide)); clear ho1 hg1) | (refine wpList_appendB rfl (.tmp 9) (.tmp 10) rfl w.heap.size _ xs rfl HOA.out HB3.out.size _ rfl marks HRM.out HZ2.out ?_; intro v2 w2 ho2 hg2; have HO2 := Lib.hid ho2; have HB4 := Lib.hid (below_own HB3.out HOA.out (Nat.le_refl _) hg2); clear ho2 hg2; obtain ⟨g, cap, cur, rfl, hgb, hgg, hnc, hcm, hcs, htk⟩ := HO2.out.2.resolve_left (fun h => by have h2 := h.2; simp [marks] at h2); have HNC := Lib.hid hnc; have hncap : n ≤ cap := (by rw [List.length_append, ← HN.out] at hnc; omega); have HGG := Lib.hid hgg; have HTK := Lib.hid htk; have HCM := Lib.hid hcm; have HCS := Lib.hid hcs; clear hnc hgg htk hcm hcs hgb))
  go_ret
  have hlen : (xs ++ marks).length = n + 6 := by rw [List.length_append, ← HN.out]; rfl
  refine ⟨_, rfl, ⟨g, cap, by rw [HN.out]; rfl, by rw [← HN.out, ← hlen]; exact HNC.out, HCM.out, (Array.getElem?_eq_some_iff.1 HGG.out).1, fun i hi => ?_⟩, HB4.out⟩
  rw [← HN.out, ← hlen] at hi
  rw [cell_of_row _ _ _ _ _ _ HGG.out]
  have h := cellsB_get hi
  rw [← HTK.out, List.getElem?_take, if_pos (by omega)] at h
  simpa using h
set_option maxRecDepth 100000 in
theorem kept_any (a v : Value) (xs : List Nat) (w : World) (ha : Marked w a xs) (hv : Rd w v xs) (hz : xs.length ≤ 1099511627776) :
    Calls Tryz.prog 12 #[a, v] w fun e w' => e = .returned (.bool true) ∧ ∃ m, w' = w.drewN m := by
  obtain ⟨b, c, rfl, hbc, hc63, hbl, hcell⟩ := ha
  have HV := Lib.hid hv
  obtain ⟨A, cv, rfl, hcv, hA⟩ := hv
  clear hA
  obtain ⟨n, hn⟩ : ∃ n, n = xs.length := ⟨_, rfl⟩
  rw [← hn] at hz hbc hcv HV hcell ⊢
  have HN := Lib.hid hn
  have HC := Lib.hid hcell
  clear hn hcell
  have hrd : Rd w (.slice (some ⟨b, 0, none⟩) n c) xs := ⟨some ⟨b, 0, none⟩, c, by rw [HN.out], by rw [← HN.out]; omega, fun h0 => ⟨b, 0, rfl, hbl, fun i hi => by
    rw [Nat.zero_add, HC.out i (by rw [HN.out]; omega)]
    simp [List.getD, List.getElem?_append_left hi]⟩⟩
  have hc1 : ∀ m, (convert 22 9 (.slice (some ⟨b, 0, none⟩) n c)).run Tryz.prog (w.drewN m) = .ok (.string (textOf xs)) (w.drewN m) := fun m => conv_rd (w := w.drewN m) hrd
  have hc2 : ∀ m, (convert 22 9 (.slice A n cv)).run Tryz.prog (w.drewN m) = .ok (.string (textOf xs)) (w.drewN m) := fun m => conv_rd (w := w.drewN m) HV.out
  have HC1 := Lib.hid hc1
  have HC2 := Lib.hid hc2
  clear hc1 hc2 hrd
  have hnc : n ≤ c := by omega
  have W6 : IntKind.i64.wrap ((n : Int) + 6) = (n : Int) + 6 := IntWalk.i64_in _ (by omega)
  have hlt : decide ((c : Int) < (n : Int) + 6) = false := by rw [decide_eq_false_iff_not]; omega
  go_enter Tryz.func12, Tryz.ntmps12
  go_wp2_with fail
  refine wp_region_held (S := (fun w' => ∃ m, w' = w.drewN m)) (by kernel_rfl) ?_
  change wpAnyH _ _ _ _ _ _ _ _ w.drew
  refine wpAnyH_take (i := 0) (v := ?_) rfl (by kernel_rfl) (by kernel_rfl) (by kernel_rfl) (fun _ _ _ h => h) (Or.inl ⟨by rfl, ?_⟩) (⟨1, rfl⟩) ?_
  rotate_left
  · intro w _; go_simp; with_reducible rfl
  try simp only [Act.put, List.getElem_toArray, List.getElem_cons_zero, List.setIfInBounds_toArray, List.set_cons_zero, List.set_cons_succ]
  refine wpAnyH_take (i := 1) (v := ?_) rfl (by kernel_rfl) (by kernel_rfl) (by kernel_rfl) (fun _ _ _ h => h) (Or.inl ⟨by rfl, ?_⟩) (⟨1, rfl⟩) ?_
  rotate_left
  · intro w _; go_simp; with_reducible rfl
  try simp only [Act.put, List.getElem_toArray, List.getElem_cons_zero, List.getElem_cons_succ, List.setIfInBounds_toArray, List.set_cons_zero, List.set_cons_succ]
  refine wpAnyH_take (i := 2) (v := ?_) rfl (by kernel_rfl) (by kernel_rfl) (by kernel_rfl) (fun _ _ _ h => h) (Or.inl ⟨by rfl, ?_⟩) (⟨1, rfl⟩) ?_
  rotate_left
  · intro w _; go_simp; with_reducible rfl
  try simp only [Act.put, List.getElem_toArray, List.getElem_cons_zero, List.getElem_cons_succ, List.setIfInBounds_toArray, List.set_cons_zero, List.set_cons_succ]
  refine wpAnyH_take (i := 3) (v := ?_) rfl (by kernel_rfl) (by kernel_rfl) (by kernel_rfl) (fun _ _ _ h => h) (Or.inl ⟨by rfl, ?_⟩) (⟨1, rfl⟩) ?_
  rotate_left
  · intro w _; go_simp; with_reducible rfl
  try simp only [Act.put, List.getElem_toArray, List.getElem_cons_zero, List.getElem_cons_succ, List.setIfInBounds_toArray, List.set_cons_zero, List.set_cons_succ]
  refine wpAnyH_take (i := 4) (v := ?_) rfl (by kernel_rfl) (by kernel_rfl) (by kernel_rfl) (fun _ _ _ h => h) (Or.inl ⟨by rfl, ?_⟩) (⟨1, rfl⟩) ?_
  rotate_left
  · intro w _; go_simp; with_reducible rfl
  try simp only [Act.put, List.getElem_toArray, List.getElem_cons_zero, List.getElem_cons_succ, List.setIfInBounds_toArray, List.set_cons_zero, List.set_cons_succ]
  refine wpAnyH_take (i := 5) (v := ?_) rfl (by kernel_rfl) (by kernel_rfl) (by kernel_rfl) (fun _ _ _ h => h) (Or.inl ⟨by rfl, ?_⟩) (⟨1, rfl⟩) ?_
  rotate_left
  · intro w _; go_simp; with_reducible rfl
  try simp only [Act.put, List.getElem_toArray, List.getElem_cons_zero, List.getElem_cons_succ, List.setIfInBounds_toArray, List.set_cons_zero, List.set_cons_succ]
  refine wpAnyH_take (i := 6) (v := ?_) rfl (by kernel_rfl) (by kernel_rfl) (by kernel_rfl) (fun _ _ _ h => h) (Or.inl ⟨by rfl, ?_⟩) (⟨1, rfl⟩) ?_
  rotate_left
  · intro w _; go_simp; with_reducible rfl
  try simp only [Act.put, List.getElem_toArray, List.getElem_cons_zero, List.getElem_cons_succ, List.setIfInBounds_toArray, List.set_cons_zero, List.set_cons_succ]
  refine wpAnyH_take (i := 7) (v := ?_) rfl (by kernel_rfl) (by kernel_rfl) (by kernel_rfl) (fun _ _ _ h => h) (Or.inl ⟨by rfl, ?_⟩) (⟨1, rfl⟩) ?_
  rotate_left
  · intro w _; go_simp; with_reducible rfl
  try simp only [Act.put, List.getElem_toArray, List.getElem_cons_zero, List.getElem_cons_succ, List.setIfInBounds_toArray, List.set_cons_zero, List.set_cons_succ]
  refine wpAnyH_take (i := 8) (v := ?_) rfl (by kernel_rfl) (by kernel_rfl) (by kernel_rfl) (fun _ _ _ h => h) (Or.inl ⟨by rfl, ?_⟩) (⟨1, rfl⟩) ?_
  rotate_left
  · intro w _; go_simp; with_reducible rfl
  try simp only [Act.put, List.getElem_toArray, List.getElem_cons_zero, List.getElem_cons_succ, List.setIfInBounds_toArray, List.set_cons_zero, List.set_cons_succ]
  refine wpAnyH_take (i := 9) (v := ?_) rfl (by kernel_rfl) (by kernel_rfl) (by kernel_rfl) (fun _ _ _ h => h) (Or.inl ⟨by rfl, ?_⟩) (⟨1, rfl⟩) ?_
  rotate_left
  · intro w _; go_simp; with_reducible rfl
  try simp only [Act.put, List.getElem_toArray, List.getElem_cons_zero, List.getElem_cons_succ, List.setIfInBounds_toArray, List.set_cons_zero, List.set_cons_succ]
  refine wpAnyH_take (i := 10) (v := ?_) rfl (by kernel_rfl) (by kernel_rfl) (by kernel_rfl) (fun _ _ _ h => h) (Or.inl ⟨by rfl, ?_⟩) (⟨1, rfl⟩) ?_
  rotate_left
  · intro w _; go_simp; with_reducible rfl
  try simp only [Act.put, List.getElem_toArray, List.getElem_cons_zero, List.getElem_cons_succ, List.setIfInBounds_toArray, List.set_cons_zero, List.set_cons_succ]
  refine wpAnyH_take (i := 11) rfl (by kernel_rfl) (by kernel_rfl) (by kernel_rfl) (fun _ _ _ h => h) (takes_conv 22 9 (.tmp 21) rfl (by rfl) _ (.string (textOf xs)) rfl (by rintro w' ⟨m, rfl⟩; exact HC1.out m)) (⟨1, rfl⟩) ?_
  try simp only [Act.put, List.getElem_toArray, List.getElem_cons_zero, List.getElem_cons_succ, List.setIfInBounds_toArray, List.set_cons_zero, List.set_cons_succ]
  refine wpAnyH_take (i := 12) (v := ?_) rfl (by kernel_rfl) (by kernel_rfl) (by kernel_rfl) (fun _ _ _ h => h) (Or.inl ⟨by rfl, ?_⟩) (⟨1, rfl⟩) ?_
  rotate_left
  · intro w _; go_simp; with_reducible rfl
  try simp only [Act.put, List.getElem_toArray, List.getElem_cons_zero, List.getElem_cons_succ, List.setIfInBounds_toArray, List.set_cons_zero, List.set_cons_succ]
  refine wpAnyH_take (i := 13) rfl (by kernel_rfl) (by kernel_rfl) (by kernel_rfl) (fun _ _ _ h => h) (takes_conv 22 9 (.tmp 23) rfl (by rfl) _ (.string (textOf xs)) rfl (by rintro w' ⟨m, rfl⟩; exact HC2.out m)) (⟨1, rfl⟩) ?_
  try simp only [Act.put, List.getElem_toArray, List.getElem_cons_zero, List.getElem_cons_succ, List.setIfInBounds_toArray, List.set_cons_zero, List.set_cons_succ]
  refine wpAnyH_take (i := 14) (v := ?_) rfl (by kernel_rfl) (by kernel_rfl) (by kernel_rfl) (fun _ _ _ h => h) (Or.inl ⟨by rfl, ?_⟩) (⟨1, rfl⟩) ?_
  rotate_left
  · intro w _; go_simp; with_reducible rfl
  try simp only [Act.put, List.getElem_toArray, List.getElem_cons_zero, List.getElem_cons_succ, List.setIfInBounds_toArray, List.set_cons_zero, List.set_cons_succ]
  refine wpAnyH_take (i := 15) (v := ?_) rfl (by kernel_rfl) (by kernel_rfl) (by kernel_rfl) (fun _ _ _ h => h) (Or.inl ⟨by rfl, ?_⟩) (⟨1, rfl⟩) ?_
  rotate_left
  · intro w _; go_simp; with_reducible rfl
  try simp only [Act.put, List.getElem_toArray, List.getElem_cons_zero, List.getElem_cons_succ, List.setIfInBounds_toArray, List.set_cons_zero, List.set_cons_succ]
  refine wpAnyH_done (by kernel_rfl) ?_ _
  clear W6 hlt
  go_wp2_with fail
  go_loop [6] (fun i => ∃ k : Nat, k ≤ 6 ∧ i = .int .i64 k) (fun i => 6 - (intOf i).toNat)
  case atStart => exact ⟨0, by omega, rfl⟩
  case round =>
    obtain ⟨k, hk, rfl⟩ := hrel
    by_cases hlt : k < 6
    · have hm : (xs ++ marks).getD (n + k) 0 = 201 + k := by
        have h : ∀ k : Fin 6, marks.getD k.val 0 = 201 + k.val := by decide
        rw [List.getD, List.getElem?_append_right (by rw [← HN.out]; omega), ← HN.out, Nat.add_sub_cancel_left]
        exact h ⟨k, hlt⟩
      have hcell := HC.out (n + k) (by omega)
      rw [hm] at hcell
      clear hm
      have i0 : (0 : Int) ≤ ((n : Nat) : Int) + ((k : Nat) : Int) := by omega
      have i1 : ((n : Nat) : Int) + ((k : Nat) : Int) < c := by omega
      have i2 : (((n : Nat) : Int) + ((k : Nat) : Int)).toNat = n + k := by omega
      go_wp2_with fail
      go_round
      case rel => exact ⟨k + 1, by omega, by go_num⟩
      case measure => simp [intOf]; omega
    · obtain rfl : k = 6 := by omega
      go_wp2_with fail
      go_ret
      exact ⟨rfl, _, rfl⟩
end Go.Proofs.YtolfphfdeccleaaGreatDoor
/- The example of layer 7; that what is made are bytes. -/
namespace Go.Proofs.YtolfphfdeccleaaGreatDoor
open Go Go.RowKit Go.Shelf
/-- the library's greatest length is some number -/
def MX (w : World) : Prop := ∃ m, w.cell? ⟨23, 0, none⟩ = some (.int .i64 m)
theorem MX.below {w w' : World} (h : MX w) {B : Nat} (hb : Below B w w') (hB : w.heap.size ≤ B) : MX w' := by
  obtain ⟨m, hm⟩ := h
  exact ⟨m, (hb.cell (p := ⟨23, 0, none⟩) (Nat.lt_of_lt_of_le (block_lt_of_cell hm) hB)).trans hm⟩
namespace Dl
end Dl
end Go.Proofs.YtolfphfdeccleaaGreatDoor
/- The document's own words of layer 7: numbers of two bytes. -/
namespace Go.Proofs.YtolfphfdeccleaaGreatDoor
open Go Go.RowKit Go.Shelf
theorem rtwo_any (A : Option Addr) (n c : Nat) (xs : List Nat) (w : World) (h : Rd w (.slice A n c) xs) (hb : Sha.Byte xs) (h2 : 2 ≤ xs.length) :
    Calls Tryz.prog 41 #[.slice A n c] w fun e w' => e = .returned (.int .i64 (Dl.two xs 0 : Nat)) ∧ ∃ m, w' = w.drewN m := by
  obtain ⟨A', c', hv, hc, hA⟩ := h
  injection hv with e1 e2 e3
  subst e1 e3
  obtain rfl := e2
  obtain ⟨b, o, rfl, _, hx⟩ := hA (by omega)
  have x0 : w.cell? ⟨b, o, none⟩ = _ := hx 0 (by omega)
  have x1 := hx 1 (by omega)
  have i0 : 0 < xs.length := by omega
  have j0 : 1 < xs.length := by omega
  have p1 := hb 0
  have q1 := hb 1
  have HE : Hid (((xs.getD 0 0 : Nat) : Int) * 256 + ((xs.getD 1 0 : Nat) : Int) = (Dl.two xs 0 : Nat)) := Lib.hid (by show _ = (((xs.getD 0 0) * 256 + xs.getD 1 0 : Nat) : Int); omega)
  obtain ⟨r, hr⟩ : ∃ r, r = Dl.two xs 0 := ⟨_, rfl⟩
  rw [← hr] at HE ⊢
  clear hr hb
  generalize xs.getD 0 0 = p at x0 p1 HE
  generalize xs.getD 1 0 = q at x1 q1 HE
  generalize hn : xs.length = n at *
  obtain ⟨r1, hr1⟩ : ∃ r1, r1 = p * 256 := ⟨_, rfl⟩
  have v1 : wrap64 (p : Int) = (p : Int) := IntWalk.wrap64_in _ (by omega)
  have v2 : wrap64 (q : Int) = (q : Int) := IntWalk.wrap64_in _ (by omega)
  have u1 : wrap64 ((p : Int) * 256) = (r1 : Int) := by rw [hr1]; exact (IntWalk.wrap64_in _ (by omega)).trans (by omega)
  have u2 : wrap64 ((r1 : Int) + (q : Int)) = (r : Int) := by rw [← HE.out, hr1]; exact (IntWalk.wrap64_in _ (by omega)).trans (by omega)
  clear hr1 p1 q1 HE
  clear hx hA
  go_enter Tryz.func41, Tryz.ntmps41
  go_wp2
  go_quiet (fail)
  go_wp2
  go_ret
  exact ⟨by simp [v1, v2, u1, u2, Array.getD], _, rfl⟩
end Go.Proofs.YtolfphfdeccleaaGreatDoor
/- The document's Steps. -/
namespace Go.Proofs.YtolfphfdeccleaaGreatDoor
open Go Go.RowKit Go.Shelf
end Go.Proofs.YtolfphfdeccleaaGreatDoor
