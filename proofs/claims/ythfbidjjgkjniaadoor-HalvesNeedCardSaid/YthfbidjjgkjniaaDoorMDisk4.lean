/- What is read of a disk (Read). -/
import Derived.Test.YthfbidjjgkjniaaDoorMDisk3
import Derived.Deep.MidRow
namespace Go.Proofs.YthfbidjjgkjniaaDoor
open Go Go.RowKit
theorem zeroI (w : World) : (zeroValue 3).run Tryd.prog w = .ok (.int .i64 0) w := by kernel_rfl
theorem cellsW_len (ps : List (Nat × List Nat)) (h : ∀ p ∈ ps, p.2.length = 32) : (cellsW ps).length = ps.length * 33 := by
  induction ps with
  | nil => rfl
  | cons p ps ih =>
    rw [cellsW, List.flatMap_cons, List.length_append, ← cellsW, ih (fun q hq => h q (List.mem_cons_of_mem _ hq)), List.length_cons, cellsB_len, h p List.mem_cons_self, List.length_cons]
    omega
theorem cellsW_get : ∀ {ps : List (Nat × List Nat)} (_h : ∀ p ∈ ps, p.2.length = 32) {k : Nat} {p : Nat × List Nat} (_hk : ps[k]? = some p) (j : Nat), j < 33 → (cellsW ps)[33 * k + j]? = (Value.int .i64 (p.1 : Int) :: cellsB p.2)[j]?
  | q :: ps, h, 0, p, hk, j, hj => by
    obtain rfl : q = p := by simpa using hk
    rw [cellsW, List.flatMap_cons, Nat.mul_zero, Nat.zero_add, List.getElem?_append_left]
    rw [List.length_cons, cellsB_len, h q List.mem_cons_self]
    omega
  | q :: ps, h, k + 1, p, hk, j, hj => by
    have ih := cellsW_get (fun x hx => h x (List.mem_cons_of_mem _ hx)) (k := k) (p := p) (by simpa using hk) j hj
    rw [cellsW, List.flatMap_cons, List.getElem?_append_right (by rw [List.length_cons, cellsB_len, h q List.mem_cons_self]; omega), List.length_cons, cellsB_len, h q List.mem_cons_self, ← cellsW, show 33 * (k + 1) + j - (32 + 1) = 33 * k + j by omega]
    exact ih
section
variable {B : Nat} {d ms ml c1 c2 : Nat} {S : Dk.D} {v : Value} {fS : Int → Option Value}
theorem read_off (i : Int) (aD : Addr) (w : World) (h : DiskAt B w d S ms ml v c1 c2 fS) (ho : S.off = true) (hD : w.cell? ⟨2, 0, none⟩ = some (ev aD)) :
    Calls Tryd.prog 67 #[.pointer (some ⟨d, 0, none⟩), .int .i64 i] w fun e w' => e = .returned (.tuple #[.slice none 0 0, ev aD]) ∧ ∃ m, w' = w.drewN m := by
  have p4 : w.cell? ⟨d, 4, none⟩ = some (.bool true) := by have := h.blk.cell 4; rw [ho] at this; exact this
  clear h ho
  go_enter Tryd.func67, Tryd.ntmps67
  go_wp2
  go_quiet (fail)
  go_wp2
  go_ret2
  exact ⟨rfl, nq, rfl⟩
theorem last_no {w : World} (h : DiskAt B w d S ms ml v c1 c2 fS) {i : Int} (hi : ¬ (0 ≤ i ∧ i < S.size)) : Dk.last S.pend i = none := by
  cases hl : Dk.last S.pend i with
  | none => rfl
  | some k =>
    obtain ⟨p, h1, h2⟩ := Dk.last_some hl
    have h3 := (h.ok.plen p (List.mem_of_getElem? h1)).1
    omega
theorem look_last {w : World} (h : DiskAt B w d S ms ml v c1 c2 fS) {i : Int} (hi : (Lit.int .i64 i).wf = true) :
    (Instr.lookup 55 (.map (some ml)) (.int .i64 i) true).run Tryd.prog w = .ok (.tuple #[.int .i64 (((Dk.last S.pend i).getD 0 : Nat) : Int), .bool (Dk.last S.pend i).isSome]) w := by
  rw [h.last.look_ok Tryd.underlying55 (zeroI _) hi]
  cases Dk.last S.pend i <;> rfl
theorem read_no (i : Int) (aR : Addr) (w : World) (h : DiskAt B w d S ms ml v c1 c2 fS) (ho : S.off = false) (hw : (Lit.int .i64 i).wf = true) (hi : ¬ (0 ≤ i ∧ i < S.size)) (hR : w.cell? ⟨0, 0, none⟩ = some (ev aR)) :
    Calls Tryd.prog 67 #[.pointer (some ⟨d, 0, none⟩), .int .i64 i] w fun e w' => e = .returned (.tuple #[.slice none 0 0, ev aR]) ∧ ∃ m, w' = w.drewN m := by
  have p4 : w.cell? ⟨d, 4, none⟩ = some (.bool false) := by have := h.blk.cell 4; rw [ho] at this; exact this
  have p3 : w.cell? ⟨d, 3, none⟩ = some (.map (some ml)) := h.blk.cell 3
  have q0 := look_last h hw
  rw [last_no h hi] at q0
  have CS := safe_no i aR w h hi hR
  clear h ho
  go_enter Tryd.func67, Tryd.ntmps67
  go_wp2_with (go_at_call 79; refine CS.mono ?_; rintro e w' ⟨rfl, m, rfl⟩)
  go_ret2
  exact ⟨rfl, m, rfl⟩
theorem read_safe (i : Nat) (w : World) (h : DiskAt B w d S ms ml v c1 c2 fS) (ho : S.off = false) (hi : i < S.size) (hl : Dk.last S.pend (i : Int) = none) :
    Calls Tryd.prog 67 #[.pointer (some ⟨d, 0, none⟩), .int .i64 (i : Int)] w fun e w' => ∃ g, e = .returned (.tuple #[.slice (some ⟨g, 0, none⟩) 32 32, .nilIface]) ∧ Blk w' g 70 (u8s (S.safe i)) ∧ w.heap.size ≤ g ∧ Below w.heap.size w w' := by
  have p4 : w.cell? ⟨d, 4, none⟩ = some (.bool false) := by have := h.blk.cell 4; rw [ho] at this; exact this
  have p3 : w.cell? ⟨d, 3, none⟩ = some (.map (some ml)) := h.blk.cell 3
  have hsz := h.ok.size
  have q0 := look_last h (i := (i : Int)) (int_wf (by omega) (by omega))
  rw [hl] at q0
  have CS := safe_ok i w h hi
  clear h ho hl
  go_enter Tryd.func67, Tryd.ntmps67
  go_wp2_with (go_at_call 79; refine CS.mono ?_; rintro e w' ⟨g, rfl, h1, h2, h3⟩; have H1 := Lib.hid h1; have H3 := Lib.hid h3; clear h1 h3)
  go_ret2
  exact ⟨g, rfl, H1.out, h2, H3.out⟩
set_option maxRecDepth 100000 in
theorem read_pend (i k : Nat) (bs : List Nat) (w : World) (h : DiskAt B w d S ms ml v c1 c2 fS) (ho : S.off = false) (hi : i < S.size) (hl : Dk.last S.pend (i : Int) = some k) (hk : S.pend[k]? = some (i, bs)) :
    Calls Tryd.prog 67 #[.pointer (some ⟨d, 0, none⟩), .int .i64 (i : Int)] w fun e w' => ∃ g, e = .returned (.tuple #[.slice (some ⟨g, 0, none⟩) 32 32, .nilIface]) ∧ Blk w' g 70 (u8s bs) ∧ w.heap.size ≤ g ∧ Below w.heap.size w w' := by
  have p4 : w.cell? ⟨d, 4, none⟩ = some (.bool false) := by have := h.blk.cell 4; rw [ho] at this; exact this
  have p3 : w.cell? ⟨d, 3, none⟩ = some (.map (some ml)) := h.blk.cell 3
  have p2 : w.cell? ⟨d, 2, none⟩ = some v := h.blk.cell 2
  have hsz := h.ok.size
  have q0 := look_last h (i := (i : Int)) (int_wf (by omega) (by omega))
  rw [hl] at q0
  have hkl : k < S.pend.length := (List.getElem?_eq_some_iff.1 hk).1
  have hpl := fun p hp => (h.ok.plen p hp).2.1
  have hbl : bs.length = 32 := hpl _ (List.mem_of_getElem? hk)
  obtain ⟨g, cap, rfl⟩ : ∃ g cap, v = .slice (some ⟨g, 0, none⟩) S.pend.length cap := by
    rcases h.row.2 with ⟨_, h0⟩ | ⟨g, cap, cur, hv, _⟩
    · omega
    · exact ⟨g, cap, hv⟩
  have hrow := h.row
  have HG : Hid (w.rangeAt g (k * 33 + 1) (cellsB bs)) := Lib.hid fun j u hj => by
    have hjl : j < 32 := by have := (List.getElem?_eq_some_iff.1 hj).1; rwa [cellsB_len, hbl] at this
    have hc := cellsW_get hpl hk (1 + j) (by omega)
    rw [show (1 + j) = j + 1 by omega, List.getElem?_cons_succ, hj] at hc
    rw [show k * 33 + 1 + j = 33 * k + (j + 1) by omega, hrow.cellAt _ (by omega)]
    exact hc
  have i0 : ((k : Nat) : Int) < S.pend.length := by omega
  have i1 : (0 : Int) ≤ ((k : Nat) : Int) := by omega
  have HK : Hid (Blk (w.alloc (.cells (u8s (List.replicate 32 0)) 70)) w.heap.size 70 (u8s (List.replicate 32 0))) := Lib.hid (Blk.new w _ _)
  have HL := Lib.hid hbl
  clear h ho hl hpl hbl hrow hk
  go_enter Tryd.func67, Tryd.ntmps67
  go_wp2_with (first | (refine wpList_load_mid rfl 70 (.tmp 30) rfl g (k * 33 + 1) rfl (cellsB bs) _ HG.out Tryd.underlying70 rfl (by rw [cellsB_len, HL.out]; exact sector_size) ?_) | (refine wpList_store_row rfl 70 (.tmp 8) (.tmp 31) rfl w.heap.size (u8s bs) rfl rfl 70 _ HK.out (by rw [u8s_size, HL.out]; exact sector_size) (by rw [u8s_size, u8s_size, HL.out]; rfl) (u8s_one _) ?_))
  go_ret2
  exact ⟨_, rfl, HK.out.row _, Nat.le_refl _, below_row ((Below.refl _ _).alloc (Nat.le_refl _) _) (Nat.le_refl _) _⟩
end
end Go.Proofs.YthfbidjjgkjniaaDoor
