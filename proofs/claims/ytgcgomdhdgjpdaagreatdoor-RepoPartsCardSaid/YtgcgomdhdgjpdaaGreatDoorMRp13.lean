/- What Last answers. -/
import Derived.Test.YtgcgomdhdgjpdaaGreatDoorMEn19s
import Derived.Test.YtgcgomdhdgjpdaaGreatDoorMRp12s
import Derived.Test.YtgcgomdhdgjpdaaGreatDoorMEn8s
import Derived.Test.YtgcgomdhdgjpdaaGreatDoorMUpto
namespace Go.Proofs.YtgcgomdhdgjpdaaGreatDoor
open Go Go.RowKit Go.Maps
namespace Rp
def lastsOf (es : List En.E) : List Nat := (List.range 8).map fun (i : Nat) => lastK es (i : Int)
theorem lastsOf_len (es : List En.E) : (lastsOf es).length = 8 := by simp [lastsOf]
theorem lastsOf_at (es : List En.E) {i : Nat} (h : i < 8) : (lastsOf es).getD i 0 = lastK es (i : Int) := by
 simp [lastsOf, List.getD_eq_getElem?_getD, List.getElem?_range h]
theorem lastsOf_snoc {es : List En.E} {e : En.E} {k : Nat} (hc : e.client = (k : Nat)) (hk : k < 8) : lastsOf (es ++ [e]) = (lastsOf es).set k (es.length + 1) := by
 apply List.ext_getElem?
 intro i
 rw [List.getElem?_set]
 by_cases hi : i < 8
 ·simp only [lastsOf, List.getElem?_map, List.getElem?_range hi, Option.map_some, lastK_snoc, hc]
  by_cases hik : k = i
  ·subst hik; simp [hk]
  ·rw [if_neg (by omega), if_neg hik]
 ·have h1 : ∀ es : List En.E, (lastsOf es)[i]? = none := fun es => List.getElem?_eq_none (by rw [lastsOf_len]; omega)
  rw [h1, h1]
  split
  ·rw [lastsOf_len, if_neg (by omega)]
  ·rfl
theorem lastE_zero {es : List En.E} {c : Int} (h : lastK es c = 0) : lastN es c = 0 ∧ lastA es c = 0 := by
 unfold lastN lastA lastE
 rw [if_pos h]
 exact ⟨rfl, rfl⟩
theorem lastE_at {es : List En.E} {c : Int} {m : Nat} (h : lastK es c = m + 1) : ∃ e, es[m]? = some e ∧ lastN es c = e.number ∧ lastA es c = e.answer := by
 have h1 := lastK_le es c
 have h2 : es[m]? = some es[m] := List.getElem?_eq_getElem (by omega)
 have h3 : lastE es c = some es[m] := by unfold lastE; rw [if_neg (by omega), h, Nat.add_sub_cancel, h2]
 exact ⟨es[m], h2, by unfold lastN; rw [h3]; rfl, by unfold lastA; rw [h3]; rfl⟩
end Rp
set_option maxRecDepth 100000 in
set_option maxHeartbeats 2000000 in
theorem last_any (r : Nat) (A : Option Addr) (n c : Nat) (rf ob : Value) (js : List Jt) (k : Nat) (w : World) (h : RpM w r (.slice A n c) (Rp.lastsOf (js.map (·.e))) rf ob) (hj : JrT w A n js) (hn : n ≤ 100000) (hk : k < 8) :
  Calls Tryz.prog 23 #[.pointer (some ⟨r, 0, none⟩), .int .i64 (k : Nat)] w fun e w' => e = .returned (.tuple #[.int .i64 (Rp.lastN (js.map (·.e)) k), .int .i64 (Rp.lastA (js.map (·.e)) k)]) ∧ Below w.heap.size w w' := by
 have i1 : ¬ ((k : Nat) : Int) < 0 := by omega
 have i2 : ¬ (8 : Int) ≤ ((k : Nat) : Int) := by omega
 have i3 : (0 : Int) ≤ ((k : Nat) : Int) := by omega
 have i4 : ((k : Nat) : Int) < 8 := by omega
 have c1 := h.at_ hk
 rw [Rp.lastsOf_at _ hk] at c1
 cases hK : Rp.lastK (js.map (·.e)) (k : Int) with
 | zero =>
  rw [hK] at c1
  obtain ⟨e1, e2⟩ := Rp.lastE_zero hK
  rw [e1, e2]
  clear h hj hn hk hK e1 e2
  go_enter Tryz.func23, Tryz.ntmps23
  go_wp2
  go_ret2
  exact ⟨rfl, Below.refl _ _⟩
 | succ m =>
  rw [hK] at c1
  obtain ⟨e, he, e1, e2⟩ := Rp.lastE_at hK
  rw [e1, e2]
  have hm : m < n := by have := (List.getElem?_eq_some_iff.1 he).1; rw [List.length_map, ← hj.len] at this; exact this
  have hml : m < js.length := by rw [← hj.len]; exact hm
  have he2 : js[m].e = e := by
   have h1 := he
   rw [List.getElem?_map, List.getElem?_eq_getElem hml] at h1
   injection h1
  have hj5 := (hj.ok js[m] (List.getElem_mem hml)).five
  have hjc := (hj.ok js[m] (List.getElem_mem hml)).cells
  rw [he2] at hjc
  obtain ⟨b, o, rfl, hb, hrg⟩ := hj.row (by omega)
  have hrm := hrg m js[m] (List.getElem?_eq_getElem hml)
  generalize js[m] = j at hj5 hjc hrm
  have c0 := h.at0
  have HSX : Hid (w.drew.cell? ⟨r, 0, none⟩ = some (.slice (some ⟨b, o, none⟩) n c) ∧ w.drew.cell? ⟨r, 1 + k, none⟩ = some (.int .i64 ((m + 1 : Nat) : Int)) ∧ w.drew.rangeAt b (o + m * 5) j.cs.toList) := Lib.hid ⟨c0, c1, hrm⟩
  have h0 : (((m + 1 : Nat) : Int) == 0) = false := by simp; omega
  have HW : Hid (IntKind.i64.wrap (((m + 1 : Nat) : Int) - 1) = (m : Nat)) := Lib.hid (by
   have h2 : m ≤ 100000 := by omega
   refine (IntWalk.i64_left _).trans ?_
   rw [IntWalk.wrap64_in _ (by omega)]; omega)
  have HM : Hid ((m : Nat) < n) := Lib.hid hm
  have HR : Hid (r < w.heap.size) := Lib.hid h.lt
  have HB : Hid (b < w.heap.size) := Lib.hid hb
  have HJ5 := Lib.hid hj5
  have HJC := Lib.hid hjc
  generalize ((m + 1 : Nat) : Int) = q at *
  clear h hj hn hk hK e1 e2 he hm hml he2 hb hrg hrm hj5 hjc c0
  go_enter Tryz.func23, Tryz.ntmps23
  go_wp2_with fail
  refine wp_region_upto (S := fun w' => (w'.cell? ⟨r, 0, none⟩ = some (.slice (some ⟨b, o, none⟩) n c) ∧ w'.cell? ⟨r, 1 + k, none⟩ = some (.int .i64 q) ∧ w'.rangeAt b (o + m * 5) j.cs.toList)) (b := 14) (by kernel_rfl) ?_
  change Upto _ _ _ _ _ _ _ _ _ w.drew
  refine Upto.takeY (i := 0) (v := ?_) rfl (by kernel_rfl) (by kernel_rfl) (by kernel_rfl) (by kernel_rfl) (fun _ _ _ h => h) (Or.inl ⟨by rfl, ?_⟩) (fun _ => HSX.out) ?_
  rotate_left
  ·intro w' _; go_simp; with_reducible rfl
  try simp only [Act.put, List.getElem_toArray, List.getElem_cons_zero, List.setIfInBounds_toArray, List.set_cons_zero, List.set_cons_succ]
  refine Upto.takeY (i := 1) (v := ?_) rfl (by kernel_rfl) (by kernel_rfl) (by kernel_rfl) (by kernel_rfl) (fun _ _ _ h => h) (Or.inl ⟨by rfl, ?_⟩) (fun _ => HSX.out) ?_
  rotate_left
  ·intro w' _; go_simp; with_reducible rfl
  try simp only [Act.put, List.getElem_toArray, List.getElem_cons_zero, List.getElem_cons_succ, List.setIfInBounds_toArray, List.set_cons_zero, List.set_cons_succ]
  refine Upto.takeY (i := 2) (v := ?_) rfl (by kernel_rfl) (by kernel_rfl) (by kernel_rfl) (by kernel_rfl) (fun _ _ _ h => h) (Or.inl ⟨by rfl, ?_⟩) (fun _ => HSX.out) ?_
  rotate_left
  ·intro w' _; go_simp; with_reducible rfl
  try simp only [Act.put, List.getElem_toArray, List.getElem_cons_zero, List.getElem_cons_succ, List.setIfInBounds_toArray, List.set_cons_zero, List.set_cons_succ]
  refine Upto.take (i := 3) (v := ?_) rfl (by kernel_rfl) (by kernel_rfl) (by kernel_rfl) (by kernel_rfl) (fun _ _ _ h => h) (Or.inl ⟨by rfl, ?_⟩) HSX.out ?_
  rotate_left
  ·intro w' hS; have h0 := hS.1; go_simp; with_reducible rfl
  try simp only [Act.put, List.getElem_toArray, List.getElem_cons_zero, List.getElem_cons_succ, List.setIfInBounds_toArray, List.set_cons_zero, List.set_cons_succ]
  refine Upto.takeY (i := 4) (v := ?_) rfl (by kernel_rfl) (by kernel_rfl) (by kernel_rfl) (by kernel_rfl) (fun _ _ _ h => h) (Or.inl ⟨by rfl, ?_⟩) (fun _ => HSX.out) ?_
  rotate_left
  ·intro w' _; go_simp; with_reducible rfl
  try simp only [Act.put, List.getElem_toArray, List.getElem_cons_zero, List.getElem_cons_succ, List.setIfInBounds_toArray, List.set_cons_zero, List.set_cons_succ]
  refine Upto.takeY (i := 5) (v := ?_) rfl (by kernel_rfl) (by kernel_rfl) (by kernel_rfl) (by kernel_rfl) (fun _ _ _ h => h) (Or.inl ⟨by rfl, ?_⟩) (fun _ => HSX.out) ?_
  rotate_left
  ·intro w' _; go_simp; with_reducible rfl
  try simp only [Act.put, List.getElem_toArray, List.getElem_cons_zero, List.getElem_cons_succ, List.setIfInBounds_toArray, List.set_cons_zero, List.set_cons_succ]
  refine Upto.takeY (i := 6) (v := ?_) rfl (by kernel_rfl) (by kernel_rfl) (by kernel_rfl) (by kernel_rfl) (fun _ _ _ h => h) (Or.inl ⟨by rfl, ?_⟩) (fun _ => HSX.out) ?_
  rotate_left
  ·intro w' _; go_simp; with_reducible rfl
  try simp only [Act.put, List.getElem_toArray, List.getElem_cons_zero, List.getElem_cons_succ, List.setIfInBounds_toArray, List.set_cons_zero, List.set_cons_succ]
  refine Upto.takeY (i := 7) (v := ?_) rfl (by kernel_rfl) (by kernel_rfl) (by kernel_rfl) (by kernel_rfl) (fun _ _ _ h => h) (Or.inl ⟨by rfl, ?_⟩) (fun _ => HSX.out) ?_
  rotate_left
  ·intro w' _; go_simp; with_reducible rfl
  try simp only [Act.put, List.getElem_toArray, List.getElem_cons_zero, List.getElem_cons_succ, List.setIfInBounds_toArray, List.set_cons_zero, List.set_cons_succ]
  refine Upto.take (i := 8) (v := .pointer (some ⟨r, 1 + k, none⟩)) rfl (by kernel_rfl) (by kernel_rfl) (by kernel_rfl) (by kernel_rfl) (fun _ _ _ h => h) (Or.inl ⟨by rfl, ?_⟩) HSX.out ?_
  ·intro w' hS; first | (go_simp; done) | (go_simp; with_reducible rfl)
  try simp only [Act.put, List.getElem_toArray, List.getElem_cons_zero, List.getElem_cons_succ, List.setIfInBounds_toArray, List.set_cons_zero, List.set_cons_succ]
  refine Upto.take (i := 9) (v := ?_) rfl (by kernel_rfl) (by kernel_rfl) (by kernel_rfl) (by kernel_rfl) (fun _ _ _ h => h) (Or.inl ⟨by rfl, ?_⟩) HSX.out ?_
  rotate_left
  ·intro w' hS; have h0 := hS.2.1; go_simp; with_reducible rfl
  try simp only [Act.put, List.getElem_toArray, List.getElem_cons_zero, List.getElem_cons_succ, List.setIfInBounds_toArray, List.set_cons_zero, List.set_cons_succ]
  refine Upto.take (i := 10) (v := .int .i64 (m : Nat)) rfl (by kernel_rfl) (by kernel_rfl) (by kernel_rfl) (by kernel_rfl) (fun _ _ _ h => h) (Or.inl ⟨by rfl, ?_⟩) HSX.out ?_
  ·intro w' hS; have h0 := HW.out; first | (go_simp; done) | (go_simp; with_reducible rfl)
  try simp only [Act.put, List.getElem_toArray, List.getElem_cons_zero, List.getElem_cons_succ, List.setIfInBounds_toArray, List.set_cons_zero, List.set_cons_succ]
  refine Upto.take (i := 11) (v := .pointer (some ⟨b, o + m * 5, none⟩)) rfl (by kernel_rfl) (by kernel_rfl) (by kernel_rfl) (by kernel_rfl) (fun _ _ _ h => h) (Or.inl ⟨by rfl, ?_⟩) HSX.out ?_
  ·intro w' hS; have h0 := HM.out; first | (go_simp; done) | (go_simp; with_reducible rfl)
  try simp only [Act.put, List.getElem_toArray, List.getElem_cons_zero, List.getElem_cons_succ, List.setIfInBounds_toArray, List.set_cons_zero, List.set_cons_succ]
  refine Upto.take (i := 12) (v := .agg (j.cs.toList).toArray) rfl (by kernel_rfl) (by kernel_rfl) (by kernel_rfl) (by kernel_rfl) (fun _ _ _ h => h) (takes_midE 32 (.tmp 33) rfl (by rfl) b (o + m * 5) (by rfl) (j.cs.toList) _ (fun w' hS => hS.2.2) (by first | exact Tryz.underlying32 | kernel_rfl) (by rfl) (by rw [Array.length_toList]; exact ent_load HJ5.out)) HSX.out ?_
  try simp only [Act.put, List.getElem_toArray, List.getElem_cons_zero, List.getElem_cons_succ, List.setIfInBounds_toArray, List.set_cons_zero, List.set_cons_succ]
  refine Upto.one (i := 13) (by kernel_rfl) rfl (by rfl) (fun K hK => ?_)
  go_simp
  have b1 : Below w.heap.size w (w.drew.alloc (.cells zJ 32)) := (below_drewN (Below.refl _ w) 1).alloc (Nat.le_refl _) _
  refine hK _ _ (fun _ _ => ⟨(b1.cell (p := ⟨r, 0, none⟩) HR.out).trans HSX.out.1, (b1.cell (p := ⟨r, 1 + k, none⟩) HR.out).trans HSX.out.2.1, fun i v hi => (b1.cell (p := ⟨b, _, none⟩) HB.out).trans (HSX.out.2.2 i v hi)⟩) ?_
  try simp only [Act.put, List.getElem_toArray, List.getElem_cons_zero, List.getElem_cons_succ, List.setIfInBounds_toArray, List.set_cons_zero, List.set_cons_succ]
  have hn := Blk.new w.drew 32 zJ
  refine Upto.one (i := 14) (by kernel_rfl) rfl (by rfl) (fun K hK => ?_)
  refine wp_store_row 32 (.tmp 6) (.tmp 34) (by rfl) w.heap.size j.cs (by rfl) (by rfl) 32 zJ hn (ent_load HJ5.out) (by rw [HJ5.out]; rfl) (by rw [HJC.out]; simp [Value.oneCell']) ?_
  refine hK _ _ (fun h => absurd rfl h) ?_
  try simp only [Act.put, List.getElem_toArray, List.getElem_cons_zero, List.getElem_cons_succ]
  refine Upto.done (by kernel_rfl) ?_ _
  have hB2 : Blk ((w.alloc (.cells zJ 32)).drew.setRow w.heap.size j.cs) w.heap.size 32 j.cs := hn.row _
  have b2 : Below w.heap.size w ((w.alloc (.cells zJ 32)).drew.setRow w.heap.size j.cs) := below_row b1 (Nat.le_refl _) _
  have HB2 := Lib.hid b2
  have q1 : ((w.alloc (.cells zJ 32)).drew.setRow w.heap.size j.cs).cell? ⟨w.heap.size, 1, none⟩ = some (.int .i64 e.number) := by rw [hB2.cell, HJC.out]; rfl
  have q2 : ((w.alloc (.cells zJ 32)).drew.setRow w.heap.size j.cs).cell? ⟨w.heap.size, 2, none⟩ = some (.int .i64 e.answer) := by rw [hB2.cell, HJC.out]; rfl
  clear hB2 b2 b1 hn hK HSX
  go_wp2_with fail
  change Code.wp _ _ _ _ ((w.alloc (.cells zJ 32)).drew.setRow w.heap.size j.cs)
  generalize (w.alloc (.cells zJ 32)).drew.setRow w.heap.size j.cs = w2 at q1 q2 HB2 ⊢
  refine wp_region_quiet_lit (by kernel_rfl) (by kernel_rfl) ?_
  repeat go_big_quiet_step (fail)
  refine wpQuiet_nil ?_
  rintro _ ⟨nq, rfl⟩
  go_wp2
  go_ret2
  exact ⟨rfl, below_drewN HB2.out nq⟩
end Go.Proofs.YtgcgomdhdgjpdaaGreatDoor
