/- A copy of bytes with marked room behind; whether a disk shows its model (the law's same). -/
import Derived.Test.YtpmadlkkldbceaaDoorRef47
namespace Go.Proofs.YtpmadlkkldbceaaDoor
open Go Go.RowKit
set_option maxRecDepth 100000 in
theorem bytesU_any (v : Value) (xs : List Nat) (w : World) (hv : Rd w v xs) (hb : Sha.Byte xs) (hz : xs.length ≤ 1099511627776) :
    Calls Tryd.prog 10 #[v] w fun e w' => ∃ v', e = .returned v' ∧ MarkU w' v' xs ∧ Below w.heap.size w w' := by
  have HV := Lib.hid hv
  obtain ⟨A, c, rfl, hc, hA⟩ := hv
  clear hA
  obtain ⟨n, hn⟩ : ∃ n, n = xs.length := ⟨_, rfl⟩
  rw [← hn] at hz hc HV ⊢
  have HN := Lib.hid hn
  clear hn
  obtain ⟨i0, hi0, hiz, his, hib⟩ := info_parts byte_info
  have hmk : ∀ w' : World, (Instr.makeSlice 32 (.int .i64 0) (.int .i64 ((n : Int) + 6))).run Tryd.prog w' = .ok (.slice (some ⟨w'.heap.size, 0, none⟩) 0 (n + 6)) (w'.alloc (.cells (madeCells #[.int .u8 0] (n + 6)) 5)) := fun w' => by
    have h := run_make (P := Tryd.prog) w' 32 5 i0 _ Tryd.underlying32 hi0 hiz .i64 .i64 0 ((n : Int) + 6) (by omega) (by omega) (by rw [hib]; omega) (by omega)
    rw [his, show ((n : Int) + 6).toNat = n + 6 by omega, Nat.mul_one] at h
    exact h
  obtain ⟨made, hmade⟩ : ∃ made, made = madeCells #[Value.int .u8 0] (n + 6) := ⟨_, rfl⟩
  rw [← hmade] at hmk
  have hms : made.size = (n + 6) * 1 := by rw [hmade, size_madeCells, Nat.mul_one]
  clear hmade hi0 hiz his hib
  have HOWN : Hid ((w.alloc (.cells made 5)).ownsRow w.heap.size 5 1 (.slice (some ⟨w.heap.size, 0, none⟩) 0 (n + 6)) ([] : List Nat).length (cellsB [])) := Lib.hid (World.ownsRow_made w made (n + 6) (Nat.le_refl _) (by unfold maxLen; omega) hms)
  have HB1 : Hid (Below w.heap.size w (w.alloc (.cells made 5))) := Lib.hid ((Below.refl _ _).alloc (Nat.le_refl _) _)
  have HR1 := Lib.hid (rd_alloc HV.out (.cells made 5))
  have HZ := Lib.hid (show ([] : List Nat).length + xs.length ≤ 70368744177664 by rw [← HN.out]; simp; omega)
  have HZ2 := Lib.hid (show xs.length + marks.length ≤ 70368744177664 by rw [← HN.out]; simp [marks]; omega)
  clear hms
  go_enter Tryd.func10, Tryd.ntmps10
  go_wp2_with (first | (refine wpList_appendB rfl (.tmp 7) (.tmp 8) rfl w.heap.size _ [] rfl HOWN.out HB1.out.size _ rfl xs HR1.out HZ.out ?_; intro v1 w1 ho1 hg1; rw [List.nil_append] at ho1; have HO1 := Lib.hid ho1; have HB2 := Lib.hid (below_own HB1.out HOWN.out (Nat.le_refl _) hg1); have HOA := Lib.hid (ownsRow_alloc ho1 (.cells (u8s marks) 5)); have HB3 := Lib.hid (HB2.out.alloc HB2.out.size (.cells (u8s marks) 5)); have HRM := Lib.hid (rd_of_lit w1 marks 5 (by decide)); clear ho1 hg1) | (refine wpList_appendB rfl (.tmp 9) (.tmp 10) rfl w.heap.size _ xs rfl HOA.out HB3.out.size _ rfl marks HRM.out HZ2.out ?_; intro v2 w2 ho2 hg2; have HO2 := Lib.hid ho2; have HB4 := Lib.hid (below_own HB3.out HOA.out (Nat.le_refl _) hg2); clear ho2 hg2; obtain ⟨g, cap, cur, rfl, hgb, hgg, hnc, hcm, hcs, htk⟩ := HO2.out.2.resolve_left (fun h => by have h2 := h.2; simp [marks] at h2); have HNC := Lib.hid hnc; have hncap : n ≤ cap := (by rw [List.length_append, ← HN.out] at hnc; omega); have HGG := Lib.hid hgg; have HTK := Lib.hid htk; have HCM := Lib.hid hcm; have HCS := Lib.hid hcs; clear hnc hgg htk hcm hcs hgb))
  go_ret
  have hlen : (xs ++ marks).length = n + 6 := by rw [List.length_append, ← HN.out]; rfl
  refine ⟨_, rfl, ⟨⟨g, cap, by rw [HN.out]; rfl, by rw [← HN.out, ← hlen]; exact HNC.out, HCM.out, (Array.getElem?_eq_some_iff.1 HGG.out).1, fun i hi => ?_⟩, g, _, _, cur, rfl, HGG.out⟩, HB4.out⟩
  rw [← HN.out, ← hlen] at hi
  rw [cell_of_row _ _ _ _ _ _ HGG.out]
  have h := cellsB_get hi
  rw [← HTK.out, List.getElem?_take, if_pos (by omega)] at h
  simpa using h

section
variable {B : Nat} {w : World} {d ms ml k : Nat} {S : Dk.D} {v : Value}
theorem dk_size (w : World) (h : DkAt B w d S ms ml v k) : Calls Tryd.prog 36 #[.pointer (some ⟨d, 0, none⟩)] w fun e w' => e = .returned (.int .i64 (S.size : Int)) ∧ w = w' := by
  obtain ⟨⟨c1, c2, fS, h1, h2, h3⟩, h4, h5⟩ := h
  exact size_any w h1
theorem dk_readoff (i : Int) (aD : Addr) (w : World) (h : DkAt B w d S ms ml v k) (ho : S.off = true) (hD : w.cell? ⟨15, 0, none⟩ = some (ev aD)) :
    Calls Tryd.prog 24 #[.pointer (some ⟨d, 0, none⟩), .int .i64 i] w fun e w' => e = .returned (.tuple #[.slice none 0 0, ev aD]) ∧ ∃ m, w' = w.drewN m := by
  obtain ⟨⟨c1, c2, fS, h1, h2, h3⟩, h4, h5⟩ := h
  exact read_off i aD w h1 ho hD
theorem dk_readno (i : Int) (aR : Addr) (w : World) (h : DkAt B w d S ms ml v k) (ho : S.off = false) (hw : (Lit.int .i64 i).wf = true) (hi : ¬ (0 ≤ i ∧ i < S.size)) (hR : w.cell? ⟨0, 0, none⟩ = some (ev aR)) :
    Calls Tryd.prog 24 #[.pointer (some ⟨d, 0, none⟩), .int .i64 i] w fun e w' => e = .returned (.tuple #[.slice none 0 0, ev aR]) ∧ ∃ m, w' = w.drewN m := by
  obtain ⟨⟨c1, c2, fS, h1, h2, h3⟩, h4, h5⟩ := h
  exact read_no i aR w h1 ho hw hi hR
theorem dk_safeno (i : Int) (aR : Addr) (w : World) (h : DkAt B w d S ms ml v k) (hi : ¬ (0 ≤ i ∧ i < S.size)) (hR : w.cell? ⟨0, 0, none⟩ = some (ev aR)) :
    Calls Tryd.prog 23 #[.pointer (some ⟨d, 0, none⟩), .int .i64 i] w fun e w' => e = .returned (.tuple #[.slice none 0 0, ev aR]) ∧ ∃ m, w' = w.drewN m := by
  obtain ⟨⟨c1, c2, fS, h1, h2, h3⟩, h4, h5⟩ := h
  exact safe_no i aR w h1 hi hR
end
section
variable {B B' BB : Nat} {d ms ml k r : Nat} {S : Dk.D} {v vS vA vB : Value} {us ub : List Value} {a : Nat → Addr}

set_option maxRecDepth 100000 in
set_option maxHeartbeats 1000000 in
theorem same_noff (w : World) (hd : DkAt B' w d S ms ml v k) (hr : RefAt B BB w r S vS vA vB us ub) (hS : Sents w a) {i : Int} (ho : S.off = true) (hi : ¬ (0 ≤ i ∧ i < (S.size : Int))) :
    Calls Tryd.prog 21 #[.pointer (some ⟨d, 0, none⟩), .pointer (some ⟨r, 0, none⟩), .int .i64 i] w fun e w' => e = .returned (.bool true) ∧ Below w.heap.size w w' := by
  have HD0 := Lib.hid hd
  have HR0 := Lib.hid hr
  have HS0 := Lib.hid hS
  clear hd hr hS
  go_enter Tryd.func21, Tryd.ntmps21
  go_wp2_with fail
  go_at_call 24
  refine (dk_readoff i (a 15) w HD0.out ho (HS0.out 15 (by omega)).var).mono ?_
  rintro e w1 ⟨rfl, m, rfl⟩
  have HB1 : Hid (Below w.heap.size w (w.drewN m)) := Lib.hid (below_drewN (Below.refl _ _) m)
  generalize w.drewN m = w1 at HB1 ⊢
  have HD1 := Lib.hid (HD0.out.below HB1.out)
  go_wp2_with fail
  go_at_call 23
  refine (dk_safeno i (a 0) w1 HD1.out hi (HS0.out.below HB1.out (Nat.le_refl _) 0 (by omega)).var).mono ?_
  rintro e w2 ⟨rfl, m2, rfl⟩
  have HB12 : Hid (Below w1.heap.size w1 (w1.drewN m2)) := Lib.hid (below_drewN (Below.refl _ _) m2)
  generalize w1.drewN m2 = w2 at HB12 ⊢
  have HD2 := Lib.hid (HD1.out.below HB12.out)
  have HB2 := Lib.hid (HB1.out.trans (HB12.out.mono HB1.out.size))
  have HR2 := Lib.hid (HR0.out.below HB2.out)
  have CSZ : ∀ m, Calls Tryd.prog 36 #[.pointer (some ⟨d, 0, none⟩)] (w2.drewN m) fun e w' => e = .returned (.int .i64 (S.size : Int)) ∧ w2.drewN m = w' := fun m => dk_size _ (HD2.out.stands fun _ _ => rfl)
  have CPD : ∀ m, Calls Tryd.prog 22 #[.pointer (some ⟨d, 0, none⟩)] (w2.drewN m) fun e w' => e = .returned (.int .i64 (S.pend.length : Int)) ∧ w2.drewN m = w' := fun m => dk_pending _ (HD2.out.stands fun _ _ => rfl)
  have COF : ∀ m, Calls Tryd.prog 25 #[.pointer (some ⟨d, 0, none⟩)] (w2.drewN m) fun e w' => e = .returned (.bool S.off) ∧ w2.drewN m = w' := fun m => dk_off _ (HD2.out.stands fun _ _ => rfl)
  have CDE : ∀ m, Calls Tryd.prog 26 #[.pointer (some ⟨d, 0, none⟩)] (w2.drewN m) fun e w' => e = .returned (.int .i64 (S.deeds : Int)) ∧ w2.drewN m = w' := fun m => dk_deeds _ (HD2.out.stands fun _ _ => rfl)
  obtain ⟨AS, cS, eS⟩ := row_slice HR2.out.rowS
  obtain ⟨AA, cA, eA⟩ := row_slice HR2.out.rowA
  have p0 : w2.cell? ⟨r, 0, none⟩ = some (.slice AS S.size cS) := by rw [← eS]; exact HR2.out.blk.cell 0
  have p1 : w2.cell? ⟨r, 1, none⟩ = some (.slice AA S.pend.length cA) := by rw [← eA]; exact HR2.out.blk.cell 1
  have p4 : w2.cell? ⟨r, 4, none⟩ = some (.bool S.off) := HR2.out.blk.cell 4
  have p5 : w2.cell? ⟨r, 5, none⟩ = some (.int .i64 (S.deeds : Int)) := HR2.out.blk.cell 5
  have HES := Lib.hid eS
  clear eS eA
  go_wp2_with fail
  go_quiet (first
    | (go_at_call 36; exact Calls.quiet_of_same ((CSZ _).mono fun _ _ h => ⟨h.1, h.2.symm⟩))
    | (go_at_call 22; exact Calls.quiet_of_same ((CPD _).mono fun _ _ h => ⟨h.1, h.2.symm⟩))
    | (go_at_call 25; exact Calls.quiet_of_same ((COF _).mono fun _ _ h => ⟨h.1, h.2.symm⟩))
    | (go_at_call 26; exact Calls.quiet_of_same ((CDE _).mono fun _ _ h => ⟨h.1, h.2.symm⟩)))
  go_wp2_with fail
  go_at_call 30
  refine (refhas_any i false (w2.drewN nq) (HR2.out.stands (Nat.le_refl _) fun _ _ => rfl) (decide_eq_false hi).symm).mono ?_
  rintro e w3 ⟨rfl, rfl⟩
  have HB3 : Hid (Below w.heap.size w (w2.drewN nq)) := Lib.hid (below_drewN HB2.out nq)
  have p4' : (w2.drewN nq).cell? ⟨r, 4, none⟩ = some (.bool S.off) := HR2.out.blk.cell 4
  rw [ho] at p4 p4'
  generalize w2.drewN nq = w3 at HB3 p4' ⊢
  go_wp2_with fail
  go_at_call 9
  refine (num_any 15 (by omega) a w3 (HS0.out.below HB3.out (Nat.le_refl _))).mono ?_
  rintro e w4 ⟨rfl, hb4⟩
  have HB4 := Lib.hid (HB3.out.trans (hb4.mono HB3.out.size))
  clear hb4
  go_wp2_with fail
  go_at_call 9
  refine (num_any 0 (by omega) a w4 (HS0.out.below HB4.out (Nat.le_refl _))).mono ?_
  rintro e w5 ⟨rfl, hb5⟩
  have HB5 := Lib.hid (HB4.out.trans (hb5.mono HB4.out.size))
  clear hb5
  go_wp2_with fail
  go_ret
  exact ⟨rfl, HB5.out⟩

set_option maxRecDepth 100000 in
set_option maxHeartbeats 1000000 in
theorem same_non (w : World) (hd : DkAt B' w d S ms ml v k) (hr : RefAt B BB w r S vS vA vB us ub) (hS : Sents w a) {i : Int} (ho : S.off = false) (hw : (Lit.int .i64 i).wf = true) (hi : ¬ (0 ≤ i ∧ i < (S.size : Int))) :
    Calls Tryd.prog 21 #[.pointer (some ⟨d, 0, none⟩), .pointer (some ⟨r, 0, none⟩), .int .i64 i] w fun e w' => e = .returned (.bool true) ∧ Below w.heap.size w w' := by
  have HD0 := Lib.hid hd
  have HR0 := Lib.hid hr
  have HS0 := Lib.hid hS
  clear hd hr hS
  go_enter Tryd.func21, Tryd.ntmps21
  go_wp2_with fail
  go_at_call 24
  refine (dk_readno i (a 0) w HD0.out ho hw hi (HS0.out 0 (by omega)).var).mono ?_
  rintro e w1 ⟨rfl, m, rfl⟩
  have HB1 : Hid (Below w.heap.size w (w.drewN m)) := Lib.hid (below_drewN (Below.refl _ _) m)
  generalize w.drewN m = w1 at HB1 ⊢
  have HD1 := Lib.hid (HD0.out.below HB1.out)
  go_wp2_with fail
  go_at_call 23
  refine (dk_safeno i (a 0) w1 HD1.out hi (HS0.out.below HB1.out (Nat.le_refl _) 0 (by omega)).var).mono ?_
  rintro e w2 ⟨rfl, m2, rfl⟩
  have HB12 : Hid (Below w1.heap.size w1 (w1.drewN m2)) := Lib.hid (below_drewN (Below.refl _ _) m2)
  generalize w1.drewN m2 = w2 at HB12 ⊢
  have HD2 := Lib.hid (HD1.out.below HB12.out)
  have HB2 := Lib.hid (HB1.out.trans (HB12.out.mono HB1.out.size))
  have HR2 := Lib.hid (HR0.out.below HB2.out)
  have CSZ : ∀ m, Calls Tryd.prog 36 #[.pointer (some ⟨d, 0, none⟩)] (w2.drewN m) fun e w' => e = .returned (.int .i64 (S.size : Int)) ∧ w2.drewN m = w' := fun m => dk_size _ (HD2.out.stands fun _ _ => rfl)
  have CPD : ∀ m, Calls Tryd.prog 22 #[.pointer (some ⟨d, 0, none⟩)] (w2.drewN m) fun e w' => e = .returned (.int .i64 (S.pend.length : Int)) ∧ w2.drewN m = w' := fun m => dk_pending _ (HD2.out.stands fun _ _ => rfl)
  have COF : ∀ m, Calls Tryd.prog 25 #[.pointer (some ⟨d, 0, none⟩)] (w2.drewN m) fun e w' => e = .returned (.bool S.off) ∧ w2.drewN m = w' := fun m => dk_off _ (HD2.out.stands fun _ _ => rfl)
  have CDE : ∀ m, Calls Tryd.prog 26 #[.pointer (some ⟨d, 0, none⟩)] (w2.drewN m) fun e w' => e = .returned (.int .i64 (S.deeds : Int)) ∧ w2.drewN m = w' := fun m => dk_deeds _ (HD2.out.stands fun _ _ => rfl)
  obtain ⟨AS, cS, eS⟩ := row_slice HR2.out.rowS
  obtain ⟨AA, cA, eA⟩ := row_slice HR2.out.rowA
  have p0 : w2.cell? ⟨r, 0, none⟩ = some (.slice AS S.size cS) := by rw [← eS]; exact HR2.out.blk.cell 0
  have p1 : w2.cell? ⟨r, 1, none⟩ = some (.slice AA S.pend.length cA) := by rw [← eA]; exact HR2.out.blk.cell 1
  have p4 : w2.cell? ⟨r, 4, none⟩ = some (.bool S.off) := HR2.out.blk.cell 4
  have p5 : w2.cell? ⟨r, 5, none⟩ = some (.int .i64 (S.deeds : Int)) := HR2.out.blk.cell 5
  have HES := Lib.hid eS
  clear eS eA
  go_wp2_with fail
  go_quiet (first
    | (go_at_call 36; exact Calls.quiet_of_same ((CSZ _).mono fun _ _ h => ⟨h.1, h.2.symm⟩))
    | (go_at_call 22; exact Calls.quiet_of_same ((CPD _).mono fun _ _ h => ⟨h.1, h.2.symm⟩))
    | (go_at_call 25; exact Calls.quiet_of_same ((COF _).mono fun _ _ h => ⟨h.1, h.2.symm⟩))
    | (go_at_call 26; exact Calls.quiet_of_same ((CDE _).mono fun _ _ h => ⟨h.1, h.2.symm⟩)))
  go_wp2_with fail
  go_at_call 30
  refine (refhas_any i false (w2.drewN nq) (HR2.out.stands (Nat.le_refl _) fun _ _ => rfl) (decide_eq_false hi).symm).mono ?_
  rintro e w3 ⟨rfl, rfl⟩
  have HB3 : Hid (Below w.heap.size w (w2.drewN nq)) := Lib.hid (below_drewN HB2.out nq)
  have p4' : (w2.drewN nq).cell? ⟨r, 4, none⟩ = some (.bool S.off) := HR2.out.blk.cell 4
  rw [ho] at p4 p4'
  generalize w2.drewN nq = w3 at HB3 p4' ⊢
  go_wp2_with fail
  go_at_call 9
  refine (num_any 0 (by omega) a w3 (HS0.out.below HB3.out (Nat.le_refl _))).mono ?_
  rintro e w4 ⟨rfl, hb4⟩
  have HB4 := Lib.hid (HB3.out.trans (hb4.mono HB3.out.size))
  clear hb4
  go_wp2_with fail
  go_at_call 9
  refine (num_any 0 (by omega) a w4 (HS0.out.below HB4.out (Nat.le_refl _))).mono ?_
  rintro e w5 ⟨rfl, hb5⟩
  have HB5 := Lib.hid (HB4.out.trans (hb5.mono HB4.out.size))
  clear hb5
  go_wp2_with fail
  go_ret
  exact ⟨rfl, HB5.out⟩

set_option maxRecDepth 100000 in
set_option maxHeartbeats 1000000 in
theorem same_off (w : World) (hd : DkAt B' w d S ms ml v k) (hr : RefAt B BB w r S vS vA vB us ub) (hS : Sents w a) {i : Nat} (ho : S.off = true) (hi : i < S.size) :
    Calls Tryd.prog 21 #[.pointer (some ⟨d, 0, none⟩), .pointer (some ⟨r, 0, none⟩), .int .i64 (i : Int)] w fun e w' => e = .returned (.bool true) ∧ Below w.heap.size w w' := by
  have HD0 := Lib.hid hd
  have HR0 := Lib.hid hr
  have HS0 := Lib.hid hS
  clear hd hr hS
  go_enter Tryd.func21, Tryd.ntmps21
  go_wp2_with fail
  go_at_call 24
  refine (dk_readoff (i : Int) (a 15) w HD0.out ho (HS0.out 15 (by omega)).var).mono ?_
  rintro e w1 ⟨rfl, m, rfl⟩
  have HB1 : Hid (Below w.heap.size w (w.drewN m)) := Lib.hid (below_drewN (Below.refl _ _) m)
  generalize w.drewN m = w1 at HB1 ⊢
  have HD1 := Lib.hid (HD0.out.below HB1.out)
  go_wp2_with fail
  go_at_call 23
  refine (dk_safe i w1 HD1.out hi).mono ?_
  rintro e w2 ⟨g2, rfl, hk2, _, hb2⟩
  have HB12 := Lib.hid hb2
  have HRS := Lib.hid (rd_of_sec hk2 (HD0.out.ok.len i))
  clear hk2 hb2
  have HD2 := Lib.hid (HD1.out.below HB12.out)
  have HB2 := Lib.hid (HB1.out.trans (HB12.out.mono HB1.out.size))
  have HR2 := Lib.hid (HR0.out.below HB2.out)
  have CSZ : ∀ m, Calls Tryd.prog 36 #[.pointer (some ⟨d, 0, none⟩)] (w2.drewN m) fun e w' => e = .returned (.int .i64 (S.size : Int)) ∧ w2.drewN m = w' := fun m => dk_size _ (HD2.out.stands fun _ _ => rfl)
  have CPD : ∀ m, Calls Tryd.prog 22 #[.pointer (some ⟨d, 0, none⟩)] (w2.drewN m) fun e w' => e = .returned (.int .i64 (S.pend.length : Int)) ∧ w2.drewN m = w' := fun m => dk_pending _ (HD2.out.stands fun _ _ => rfl)
  have COF : ∀ m, Calls Tryd.prog 25 #[.pointer (some ⟨d, 0, none⟩)] (w2.drewN m) fun e w' => e = .returned (.bool S.off) ∧ w2.drewN m = w' := fun m => dk_off _ (HD2.out.stands fun _ _ => rfl)
  have CDE : ∀ m, Calls Tryd.prog 26 #[.pointer (some ⟨d, 0, none⟩)] (w2.drewN m) fun e w' => e = .returned (.int .i64 (S.deeds : Int)) ∧ w2.drewN m = w' := fun m => dk_deeds _ (HD2.out.stands fun _ _ => rfl)
  obtain ⟨AS, cS, eS⟩ := row_slice HR2.out.rowS
  obtain ⟨AA, cA, eA⟩ := row_slice HR2.out.rowA
  have p0 : w2.cell? ⟨r, 0, none⟩ = some (.slice AS S.size cS) := by rw [← eS]; exact HR2.out.blk.cell 0
  have p1 : w2.cell? ⟨r, 1, none⟩ = some (.slice AA S.pend.length cA) := by rw [← eA]; exact HR2.out.blk.cell 1
  have p4 : w2.cell? ⟨r, 4, none⟩ = some (.bool S.off) := HR2.out.blk.cell 4
  have p5 : w2.cell? ⟨r, 5, none⟩ = some (.int .i64 (S.deeds : Int)) := HR2.out.blk.cell 5
  have HES := Lib.hid eS
  clear eS eA
  go_wp2_with fail
  go_quiet (first
    | (go_at_call 36; exact Calls.quiet_of_same ((CSZ _).mono fun _ _ h => ⟨h.1, h.2.symm⟩))
    | (go_at_call 22; exact Calls.quiet_of_same ((CPD _).mono fun _ _ h => ⟨h.1, h.2.symm⟩))
    | (go_at_call 25; exact Calls.quiet_of_same ((COF _).mono fun _ _ h => ⟨h.1, h.2.symm⟩))
    | (go_at_call 26; exact Calls.quiet_of_same ((CDE _).mono fun _ _ h => ⟨h.1, h.2.symm⟩)))
  go_wp2_with fail
  go_at_call 30
  refine (refhas_yes i (w2.drewN nq) (HR2.out.stands (Nat.le_refl _) fun _ _ => rfl) hi).mono ?_
  rintro e w3 ⟨rfl, rfl⟩
  have HB3 : Hid (Below w.heap.size w (w2.drewN nq)) := Lib.hid (below_drewN HB2.out nq)
  have HR3 : Hid (RefAt B BB (w2.drewN nq) r S vS vA vB us ub) := Lib.hid (HR2.out.stands (Nat.le_refl _) fun _ _ => rfl)
  have HRS3 : Hid (Rd (w2.drewN nq) (.slice (some ⟨g2, 0, none⟩) 32 32) (S.safe i)) := Lib.hid (HRS.out.below (below_drewN (Below.refl _ _) nq) (Nat.le_refl _))
  have HX3 : Hid True := Lib.hid trivial
  have p0' : (w2.drewN nq).cell? ⟨r, 0, none⟩ = some (.slice AS S.size cS) := by rw [← HES.out]; exact HR3.out.blk.cell 0
  have p4' : (w2.drewN nq).cell? ⟨r, 4, none⟩ = some (.bool S.off) := HR3.out.blk.cell 4
  clear p0 p1 p4 p5 CSZ CPD COF CDE
  rw [ho] at p4'
  generalize w2.drewN nq = w3 at HB3 HR3 HRS3 HX3 p0' p4' ⊢
  obtain ⟨gS, capS, eS2, _, _, hcell⟩ := own_cells HR3.out.rowS (by omega)
  have eS3 := HES.out.symm.trans eS2
  injection eS3 with eS3 _ eS4
  subst eS3 eS4
  obtain ⟨u, hu, hsec⟩ := HR3.out.secS i hi
  have pu : w3.cell? ⟨gS, i, none⟩ = some u := hcell i u hu
  obtain ⟨gu, eu, _, hku, hlu⟩ := hsec
  subst eu
  have HRU : Hid (Rd w3 (.slice (some ⟨gu, 0, none⟩) 32 32) (S.safe i)) := Lib.hid (rd_of_sec hku hlu)
  clear hcell hku hlu hu eS2
  obtain ⟨T, hT⟩ : ∃ T, T = textOf (S.safe i) := ⟨_, rfl⟩
  have q1 : ∀ m, (convert 32 9 (.slice (some ⟨g2, 0, none⟩) 32 32)).run Tryd.prog (w3.drewN m) = .ok (.string T) (w3.drewN m) := fun m => by rw [hT]; exact conv_rd (HRS3.out.below (below_drewN (Below.refl _ _) m) (Nat.le_refl _))
  have q2 : ∀ m, (convert 32 9 (.slice (some ⟨gu, 0, none⟩) 32 32)).run Tryd.prog (w3.drewN m) = .ok (.string T) (w3.drewN m) := fun m => by rw [hT]; exact conv_rd (HRU.out.below (below_drewN (Below.refl _ _) m) (Nat.le_refl _))
  have i0 : (0 : Int) ≤ ((i : Nat) : Int) := by omega
  have i1 : ((i : Nat) : Int) < S.size := by omega
  clear hT
  go_wp2_with fail
  go_quiet (fail)
  go_wp2_with fail
  go_at_call 9
  refine (num_any 15 (by omega) a _ (HS0.out.below (below_drewN HB3.out _) (Nat.le_refl _))).mono ?_
  rintro e w4 ⟨rfl, hb4⟩
  have HB4 := Lib.hid ((below_drewN HB3.out _).trans (hb4.mono (below_drewN HB3.out _).size))
  clear hb4
  go_wp2_with fail
  go_ret
  exact ⟨rfl, HB4.out⟩

set_option maxRecDepth 100000 in
set_option maxHeartbeats 1000000 in
theorem same_on (w : World) (hd : DkAt B' w d S ms ml v k) (hr : RefAt B BB w r S vS vA vB us ub) (hS : Sents w a) {i : Nat} (ho : S.off = false) (hi : i < S.size) :
    Calls Tryd.prog 21 #[.pointer (some ⟨d, 0, none⟩), .pointer (some ⟨r, 0, none⟩), .int .i64 (i : Int)] w fun e w' => e = .returned (.bool true) ∧ Below w.heap.size w w' := by
  have HD0 := Lib.hid hd
  have HR0 := Lib.hid hr
  have HS0 := Lib.hid hS
  clear hd hr hS
  go_enter Tryd.func21, Tryd.ntmps21
  go_wp2_with fail
  go_at_call 24
  refine (dk_read i w HD0.out ho hi).mono ?_
  rintro e w1 ⟨g1, rfl, hk1, _, hb1⟩
  have HB1 := Lib.hid hb1
  have HR1 := Lib.hid (rd_of_sec hk1 (seen_len HD0.out.ok i))
  clear hk1 hb1
  have HD1 := Lib.hid (HD0.out.below HB1.out)
  go_wp2_with fail
  go_at_call 23
  refine (dk_safe i w1 HD1.out hi).mono ?_
  rintro e w2 ⟨g2, rfl, hk2, _, hb2⟩
  have HB12 := Lib.hid hb2
  have HRS := Lib.hid (rd_of_sec hk2 (HD0.out.ok.len i))
  clear hk2 hb2
  have HD2 := Lib.hid (HD1.out.below HB12.out)
  have HB2 := Lib.hid (HB1.out.trans (HB12.out.mono HB1.out.size))
  have HR2 := Lib.hid (HR0.out.below HB2.out)
  have CSZ : ∀ m, Calls Tryd.prog 36 #[.pointer (some ⟨d, 0, none⟩)] (w2.drewN m) fun e w' => e = .returned (.int .i64 (S.size : Int)) ∧ w2.drewN m = w' := fun m => dk_size _ (HD2.out.stands fun _ _ => rfl)
  have CPD : ∀ m, Calls Tryd.prog 22 #[.pointer (some ⟨d, 0, none⟩)] (w2.drewN m) fun e w' => e = .returned (.int .i64 (S.pend.length : Int)) ∧ w2.drewN m = w' := fun m => dk_pending _ (HD2.out.stands fun _ _ => rfl)
  have COF : ∀ m, Calls Tryd.prog 25 #[.pointer (some ⟨d, 0, none⟩)] (w2.drewN m) fun e w' => e = .returned (.bool S.off) ∧ w2.drewN m = w' := fun m => dk_off _ (HD2.out.stands fun _ _ => rfl)
  have CDE : ∀ m, Calls Tryd.prog 26 #[.pointer (some ⟨d, 0, none⟩)] (w2.drewN m) fun e w' => e = .returned (.int .i64 (S.deeds : Int)) ∧ w2.drewN m = w' := fun m => dk_deeds _ (HD2.out.stands fun _ _ => rfl)
  obtain ⟨AS, cS, eS⟩ := row_slice HR2.out.rowS
  obtain ⟨AA, cA, eA⟩ := row_slice HR2.out.rowA
  have p0 : w2.cell? ⟨r, 0, none⟩ = some (.slice AS S.size cS) := by rw [← eS]; exact HR2.out.blk.cell 0
  have p1 : w2.cell? ⟨r, 1, none⟩ = some (.slice AA S.pend.length cA) := by rw [← eA]; exact HR2.out.blk.cell 1
  have p4 : w2.cell? ⟨r, 4, none⟩ = some (.bool S.off) := HR2.out.blk.cell 4
  have p5 : w2.cell? ⟨r, 5, none⟩ = some (.int .i64 (S.deeds : Int)) := HR2.out.blk.cell 5
  have HES := Lib.hid eS
  clear eS eA
  go_wp2_with fail
  go_quiet (first
    | (go_at_call 36; exact Calls.quiet_of_same ((CSZ _).mono fun _ _ h => ⟨h.1, h.2.symm⟩))
    | (go_at_call 22; exact Calls.quiet_of_same ((CPD _).mono fun _ _ h => ⟨h.1, h.2.symm⟩))
    | (go_at_call 25; exact Calls.quiet_of_same ((COF _).mono fun _ _ h => ⟨h.1, h.2.symm⟩))
    | (go_at_call 26; exact Calls.quiet_of_same ((CDE _).mono fun _ _ h => ⟨h.1, h.2.symm⟩)))
  go_wp2_with fail
  go_at_call 30
  refine (refhas_yes i (w2.drewN nq) (HR2.out.stands (Nat.le_refl _) fun _ _ => rfl) hi).mono ?_
  rintro e w3 ⟨rfl, rfl⟩
  have HB3 : Hid (Below w.heap.size w (w2.drewN nq)) := Lib.hid (below_drewN HB2.out nq)
  have HR3 : Hid (RefAt B BB (w2.drewN nq) r S vS vA vB us ub) := Lib.hid (HR2.out.stands (Nat.le_refl _) fun _ _ => rfl)
  have HRS3 : Hid (Rd (w2.drewN nq) (.slice (some ⟨g2, 0, none⟩) 32 32) (S.safe i)) := Lib.hid (HRS.out.below (below_drewN (Below.refl _ _) nq) (Nat.le_refl _))
  have HX3 : Hid (Rd (w2.drewN nq) (.slice (some ⟨g1, 0, none⟩) 32 32) (Dk.seen S i)) := Lib.hid ((HR1.out.below HB12.out (Nat.le_refl _)).below (below_drewN (Below.refl _ _) nq) (Nat.le_refl _))
  have p0' : (w2.drewN nq).cell? ⟨r, 0, none⟩ = some (.slice AS S.size cS) := by rw [← HES.out]; exact HR3.out.blk.cell 0
  have p4' : (w2.drewN nq).cell? ⟨r, 4, none⟩ = some (.bool S.off) := HR3.out.blk.cell 4
  clear p0 p1 p4 p5 CSZ CPD COF CDE
  rw [ho] at p4'
  generalize w2.drewN nq = w3 at HB3 HR3 HRS3 HX3 p0' p4' ⊢
  obtain ⟨gS, capS, eS2, _, _, hcell⟩ := own_cells HR3.out.rowS (by omega)
  have eS3 := HES.out.symm.trans eS2
  injection eS3 with eS3 _ eS4
  subst eS3 eS4
  obtain ⟨u, hu, hsec⟩ := HR3.out.secS i hi
  have pu : w3.cell? ⟨gS, i, none⟩ = some u := hcell i u hu
  obtain ⟨gu, eu, _, hku, hlu⟩ := hsec
  subst eu
  have HRU : Hid (Rd w3 (.slice (some ⟨gu, 0, none⟩) 32 32) (S.safe i)) := Lib.hid (rd_of_sec hku hlu)
  clear hcell hku hlu hu eS2
  obtain ⟨T, hT⟩ : ∃ T, T = textOf (S.safe i) := ⟨_, rfl⟩
  have q1 : ∀ m, (convert 32 9 (.slice (some ⟨g2, 0, none⟩) 32 32)).run Tryd.prog (w3.drewN m) = .ok (.string T) (w3.drewN m) := fun m => by rw [hT]; exact conv_rd (HRS3.out.below (below_drewN (Below.refl _ _) m) (Nat.le_refl _))
  have q2 : ∀ m, (convert 32 9 (.slice (some ⟨gu, 0, none⟩) 32 32)).run Tryd.prog (w3.drewN m) = .ok (.string T) (w3.drewN m) := fun m => by rw [hT]; exact conv_rd (HRU.out.below (below_drewN (Below.refl _ _) m) (Nat.le_refl _))
  have i0 : (0 : Int) ≤ ((i : Nat) : Int) := by omega
  have i1 : ((i : Nat) : Int) < S.size := by omega
  clear hT
  go_wp2_with fail
  go_quiet (fail)
  go_wp2_with fail
  have HRF : Hid (∀ m, RefAt B BB (w3.drewN m) r S vS vA vB us ub) := Lib.hid fun m => HR3.out.stands (Nat.le_refl _) fun _ _ => rfl
  have q3 : ∀ m, (convert 32 9 (.slice (some ⟨g1, 0, none⟩) 32 32)).run Tryd.prog (w3.drewN m) = .ok (.string (textOf (Dk.seen S i))) (w3.drewN m) := fun m => conv_rd (HX3.out.below (below_drewN (Below.refl _ _) m) (Nat.le_refl _))
  have q4 : ∀ m u, Sec B (w3.drewN m) u (Dk.seen S i) → ∀ m', (convert 32 9 u).run Tryd.prog (w3.drewN m') = .ok (.string (textOf (Dk.seen S i))) (w3.drewN m') := fun m u h m' => conv_rd (w := w3.drewN m') h.rd
  have Q3 := Lib.hid q3
  have Q4 := Lib.hid q4
  clear q1 q2 q3 q4
  refine wp_region_held (S := (fun w' => ∃ m, w' = w3.drewN m)) (by kernel_rfl) ?_
  change wpAnyH _ _ _ _ _ _ _ _ (w3.drewN nq).drew
  refine wpAnyH_take (i := 0) (v := ?_) rfl (by kernel_rfl) (by kernel_rfl) (by kernel_rfl) (fun _ _ _ h => h) (Or.inl ⟨by rfl, ?_⟩) (⟨nq + 1, rfl⟩) ?_
  rotate_left
  · intro w _; go_simp; with_reducible rfl
  try simp only [Act.put, List.getElem_toArray, List.getElem_cons_zero, List.getElem_cons_succ, List.setIfInBounds_toArray, List.set_cons_zero, List.set_cons_succ]
  refine wpAnyH_take (i := 1) (v := ?_) rfl (by kernel_rfl) (by kernel_rfl) (by kernel_rfl) (fun _ _ _ h => h) (Or.inl ⟨by rfl, ?_⟩) (⟨nq + 1, rfl⟩) ?_
  rotate_left
  · intro w _; go_simp; with_reducible rfl
  try simp only [Act.put, List.getElem_toArray, List.getElem_cons_zero, List.getElem_cons_succ, List.setIfInBounds_toArray, List.set_cons_zero, List.set_cons_succ]
  refine wpAnyH_take (i := 2) (v := ?_) rfl (by kernel_rfl) (by kernel_rfl) (by kernel_rfl) (fun _ _ _ h => h) (Or.inl ⟨by rfl, ?_⟩) (⟨nq + 1, rfl⟩) ?_
  rotate_left
  · intro w _; go_simp; with_reducible rfl
  try simp only [Act.put, List.getElem_toArray, List.getElem_cons_zero, List.getElem_cons_succ, List.setIfInBounds_toArray, List.set_cons_zero, List.set_cons_succ]
  refine wpAnyH_take (i := 3) (v := ?_) rfl (by kernel_rfl) (by kernel_rfl) (by kernel_rfl) (fun _ _ _ h => h) (Or.inl ⟨by rfl, ?_⟩) (⟨nq + 1, rfl⟩) ?_
  rotate_left
  · intro w _; go_simp; with_reducible rfl
  try simp only [Act.put, List.getElem_toArray, List.getElem_cons_zero, List.getElem_cons_succ, List.setIfInBounds_toArray, List.set_cons_zero, List.set_cons_succ]
  refine wpAnyH_take (i := 4) rfl (by kernel_rfl) (by kernel_rfl) (by kernel_rfl) (fun _ _ _ h => h) (takes_conv 32 9 (.tmp 115) rfl (by rfl) _ (.string (textOf (Dk.seen S i))) rfl (by rintro w' ⟨m, rfl⟩; exact Q3.out m)) (⟨nq + 1, rfl⟩) ?_
  try simp only [Act.put, List.getElem_toArray, List.getElem_cons_zero, List.getElem_cons_succ, List.setIfInBounds_toArray, List.set_cons_zero, List.set_cons_succ]
  refine wpAnyH_take (i := 5) (v := ?_) rfl (by kernel_rfl) (by kernel_rfl) (by kernel_rfl) (fun _ _ _ h => h) (Or.inl ⟨by rfl, ?_⟩) (⟨nq + 1, rfl⟩) ?_
  rotate_left
  · intro w _; go_simp; with_reducible rfl
  try simp only [Act.put, List.getElem_toArray, List.getElem_cons_zero, List.getElem_cons_succ, List.setIfInBounds_toArray, List.set_cons_zero, List.set_cons_succ]
  refine wpAnyH_take (i := 6) (v := ?_) rfl (by kernel_rfl) (by kernel_rfl) (by kernel_rfl) (fun _ _ _ h => h) (Or.inl ⟨by rfl, ?_⟩) (⟨nq + 1, rfl⟩) ?_
  rotate_left
  · intro w _; go_simp; with_reducible rfl
  try simp only [Act.put, List.getElem_toArray, List.getElem_cons_zero, List.getElem_cons_succ, List.setIfInBounds_toArray, List.set_cons_zero, List.set_cons_succ]
  refine all_one (i := 7) (by kernel_rfl) rfl (by rfl) (fun K hK => ?_)
  go_simp
  refine (refseen_any i _ (HRF.out (nq + 1)) hi).mono ?_
  rintro e w4 ⟨u, rfl, hsec, rfl⟩
  have HSC := Lib.hid hsec
  clear hsec
  dsimp only
  refine hK _ _ (⟨nq + 1, rfl⟩) ?_; clear hK K
  try simp only [Act.put, List.getElem_toArray, List.getElem_cons_zero, List.getElem_cons_succ, List.setIfInBounds_toArray, List.set_cons_zero, List.set_cons_succ]
  refine wpAnyH_take (i := 8) rfl (by kernel_rfl) (by kernel_rfl) (by kernel_rfl) (fun _ _ _ h => h) (takes_conv 32 9 (.tmp 119) rfl (by rfl) _ (.string (textOf (Dk.seen S i))) rfl (by rintro w' ⟨m, rfl⟩; exact Q4.out _ u HSC.out m)) (⟨nq + 1, rfl⟩) ?_
  try simp only [Act.put, List.getElem_toArray, List.getElem_cons_zero, List.getElem_cons_succ, List.setIfInBounds_toArray, List.set_cons_zero, List.set_cons_succ]
  refine wpAnyH_take (i := 9) (v := ?_) rfl (by kernel_rfl) (by kernel_rfl) (by kernel_rfl) (fun _ _ _ h => h) (Or.inl ⟨by rfl, ?_⟩) (⟨nq + 1, rfl⟩) ?_
  rotate_left
  · intro w _; go_simp; with_reducible rfl
  try simp only [Act.put, List.getElem_toArray, List.getElem_cons_zero, List.getElem_cons_succ, List.setIfInBounds_toArray, List.set_cons_zero, List.set_cons_succ]
  refine wpAnyH_take (i := 10) (v := ?_) rfl (by kernel_rfl) (by kernel_rfl) (by kernel_rfl) (fun _ _ _ h => h) (Or.inl ⟨by rfl, ?_⟩) (⟨nq + 1, rfl⟩) ?_
  rotate_left
  · intro w _; go_simp; with_reducible rfl
  try simp only [Act.put, List.getElem_toArray, List.getElem_cons_zero, List.getElem_cons_succ, List.setIfInBounds_toArray, List.set_cons_zero, List.set_cons_succ]
  refine wpAnyH_take (i := 11) (v := ?_) rfl (by kernel_rfl) (by kernel_rfl) (by kernel_rfl) (fun _ _ _ h => h) (Or.inl ⟨by rfl, ?_⟩) (⟨nq + 1, rfl⟩) ?_
  rotate_left
  · intro w _; go_simp; with_reducible rfl
  try simp only [Act.put, List.getElem_toArray, List.getElem_cons_zero, List.getElem_cons_succ, List.setIfInBounds_toArray, List.set_cons_zero, List.set_cons_succ]
  refine wpAnyH_done (by kernel_rfl) ?_ _
  go_wp2
  go_ret
  exact ⟨by simp, below_drewN HB3.out _⟩
end
end Go.Proofs.YtpmadlkkldbceaaDoor
