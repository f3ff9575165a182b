/- What of a disk only reads, or makes one: New, has, Safe, Pending, Off, Size, Deeds; Arm, deed. -/
import Derived.Test.YthfbidjjgkjniaaDoorMDisk1
namespace Go.Proofs.YthfbidjjgkjniaaDoor
open Go Go.RowKit
def zeros32 : List Nat := List.replicate 32 0
theorem zeroS (w : World) : (zeroValue 70).run Tryd.prog w = .ok (.agg (u8s (List.replicate 32 0))) w := by kernel_rfl
theorem sector_size : (Tryd.prog.info? 70).map (·.size) = some 32 := by kernel_rfl
theorem int_wf {i : Int} (h0 : 0 ≤ i) (h1 : i ≤ 9223372036854775807) : (Lit.int .i64 i).wf = true := WalkArith.wf_i64 (by omega)
/-- a disk of noughts -/
def fresh (n : Nat) : Dk.D := ⟨n, fun _ => List.replicate 32 0, [], false, false, 0, 0⟩
theorem fresh_ok {n : Nat} (h : n ≤ 4096) : Dk.Ok (fresh n) := ⟨h, fun _ => by simp [fresh], fun _ i => by simp only [fresh, List.getD_eq_getElem?_getD]; rcases Nat.lt_or_ge i 32 with hi | hi; (rw [List.getElem?_replicate, if_pos hi]; decide); (rw [List.getElem?_eq_none (by simp; omega)]; decide), fun p hp => (by cases hp), by simp [fresh], by simp [fresh], by simp [fresh]⟩
abbrev newBox (w : World) (n : Int) : World := ((w.alloc (.map #[] 0)).alloc (.map #[] 0)).alloc (.cells #[.int .i64 n, .map (some w.heap.size), .slice none 0 0, .map (some (w.heap.size + 1)), .bool false, .bool false, .int .i64 0, .int .i64 0] 58)
theorem below_newBox (w : World) (n : Int) : Below w.heap.size w (newBox w n) := (((Below.refl _ _).alloc (Nat.le_refl _) _).alloc (by simp) _).alloc (by simp <;> omega) _
theorem disk_new (n : Nat) (w : World) (h2 : 2 ≤ n) (h4 : n ≤ 4096) :
    Calls Tryd.prog 8 #[.int .i64 (n : Int)] w fun e w' => ∃ d ms ml, e = .returned (.tuple #[.pointer (some ⟨d, 0, none⟩), .nilIface]) ∧ DiskAt w.heap.size w' d (fresh n) ms ml (.slice none 0 0) 0 0 (fun _ => none) ∧ Below w.heap.size w w' := by
  have hmm := @run_makeMap Tryd.prog
  have H : Hid (DiskAt w.heap.size (newBox w (n : Int)) (w.heap.size + 2) (fresh n) w.heap.size (w.heap.size + 1) (.slice none 0 0) 0 0 (fun _ => none)) := Lib.hid (by
    have hz1 : (w.alloc (.map #[] 0)).heap.size = w.heap.size + 1 := by simp
    have hz2 : ((w.alloc (.map #[] 0)).alloc (.map #[] 0)).heap.size = w.heap.size + 2 := by simp
    have b1 : Below (w.alloc (.map #[] 0)).heap.size (w.alloc (.map #[] 0)) (newBox w (n : Int)) := ((Below.refl _ _).alloc (Nat.le_refl _) _).alloc (by simp) _
    have b2 : Below ((w.alloc (.map #[] 0)).alloc (.map #[] 0)).heap.size ((w.alloc (.map #[] 0)).alloc (.map #[] 0)) (newBox w (n : Int)) := (Below.refl _ _).alloc (Nat.le_refl _) _
    have m1 := (MapF.made w).below b1
    have m2 := (MapF.made (w.alloc (.map #[] 0))).below b2
    rw [hz1] at m2
    have hb := Blk.new ((w.alloc (.map #[] 0)).alloc (.map #[] 0)) 58 #[.int .i64 (n : Int), .map (some w.heap.size), .slice none 0 0, .map (some (w.heap.size + 1)), .bool false, .bool false, .int .i64 0, .int .i64 0]
    rw [hz2] at hb
    exact ⟨hb, m1, fun i _ => rfl, m2, ⟨by simp [fresh, cellsW], .inl ⟨rfl, rfl⟩⟩, fresh_ok h4, by omega, by omega, by omega, by omega⟩)
  have HB := Lib.hid (below_newBox w (n : Int))
  have i1 : ¬ (n : Int) < 2 := by omega
  have i2 : ¬ (4096 : Int) < (n : Int) := by omega
  go_enter Tryd.func8, Tryd.ntmps8
  go_wp2
  go_ret2
  exact ⟨w.heap.size + 2, rfl, ⟨w.heap.size, w.heap.size + 1, H.out⟩, HB.out⟩
theorem disk_none (n : Int) (aR : Addr) (w : World) (h : n < 2 ∨ 4096 < n) (hR : w.cell? ⟨0, 0, none⟩ = some (ev aR)) :
    Calls Tryd.prog 8 #[.int .i64 n] w fun e w' => e = .returned (.tuple #[.pointer none, ev aR]) ∧ ∃ m, w' = w.drewN m := by
  by_cases h1 : n < 2
  · go_enter Tryd.func8, Tryd.ntmps8
    go_wp2
    go_quiet (fail)
    go_wp2
    go_ret2
    exact ⟨rfl, nq, rfl⟩
  · have i2 : (4096 : Int) < n := by omega
    go_enter Tryd.func8, Tryd.ntmps8
    go_wp2
    go_quiet (fail)
    go_wp2
    go_ret2
    exact ⟨rfl, nq, rfl⟩
section
variable {B : Nat} {d ms ml c1 c2 : Nat} {S : Dk.D} {v : Value} {fS : Int → Option Value}
theorem has_any (i : Int) (r : Bool) (w : World) (h : DiskAt B w d S ms ml v c1 c2 fS) (hr : r = decide (0 ≤ i ∧ i < (S.size : Int))) :
    Calls Tryd.prog 78 #[.pointer (some ⟨d, 0, none⟩), .int .i64 i] w fun e w' => e = .returned (.bool r) ∧ w = w' := by
  have p0 : w.cell? ⟨d, 0, none⟩ = some (.int .i64 (S.size : Int)) := h.blk.cell 0
  clear h
  by_cases h0 : 0 ≤ i
  · by_cases h1 : i < S.size
    · obtain rfl : r = true := by rw [hr]; exact decide_eq_true ⟨h0, h1⟩
      clear hr
      go_enter Tryd.func78, Tryd.ntmps78
      go_wp2
      go_ret
      exact ⟨rfl, rfl⟩
    · obtain rfl : r = false := by rw [hr]; exact decide_eq_false (fun k => h1 k.2)
      clear hr
      go_enter Tryd.func78, Tryd.ntmps78
      go_wp2
      go_ret
      exact ⟨rfl, rfl⟩
  · obtain rfl : r = false := by rw [hr]; exact decide_eq_false (fun k => h0 k.1)
    clear hr
    go_enter Tryd.func78, Tryd.ntmps78
    go_wp2
    go_ret
    exact ⟨rfl, rfl⟩
theorem size_any (w : World) (h : DiskAt B w d S ms ml v c1 c2 fS) : Calls Tryd.prog 23 #[.pointer (some ⟨d, 0, none⟩)] w fun e w' => e = .returned (.int .i64 (S.size : Int)) ∧ w = w' := by
  have p0 : w.cell? ⟨d, 0, none⟩ = some (.int .i64 (S.size : Int)) := h.blk.cell 0
  clear h
  go_enter Tryd.func23, Tryd.ntmps23
  go_wp2
  go_ret
  exact ⟨rfl, rfl⟩
theorem row_slice {w : World} {e : TypeId} {s n : Nat} {cs : List Value} (h : w.ownsRow B e s v n cs) : ∃ A c, v = .slice A n c := by
  rcases h.2 with ⟨hv, hn⟩ | ⟨g, cap, cur, hv, _⟩
  · exact ⟨none, 0, by rw [hv, hn]⟩
  · exact ⟨_, cap, hv⟩
theorem safe_no (i : Int) (aR : Addr) (w : World) (h : DiskAt B w d S ms ml v c1 c2 fS) (hi : ¬ (0 ≤ i ∧ i < S.size)) (hR : w.cell? ⟨0, 0, none⟩ = some (ev aR)) :
    Calls Tryd.prog 79 #[.pointer (some ⟨d, 0, none⟩), .int .i64 i] w fun e w' => e = .returned (.tuple #[.slice none 0 0, ev aR]) ∧ ∃ m, w' = w.drewN m := by
  have CH := has_any i false w h (decide_eq_false hi).symm
  clear h
  go_enter Tryd.func79, Tryd.ntmps79
  go_wp2_with (go_at_call 78; refine CH.mono ?_; rintro e w' ⟨rfl, rfl⟩)
  go_quiet (fail)
  go_wp2
  go_ret2
  exact ⟨rfl, nq, rfl⟩
set_option maxRecDepth 100000 in
theorem safe_ok (i : Nat) (w : World) (h : DiskAt B w d S ms ml v c1 c2 fS) (hi : i < S.size) :
    Calls Tryd.prog 79 #[.pointer (some ⟨d, 0, none⟩), .int .i64 (i : Int)] w fun e w' => ∃ g, e = .returned (.tuple #[.slice (some ⟨g, 0, none⟩) 32 32, .nilIface]) ∧ Blk w' g 70 (u8s (S.safe i)) ∧ w.heap.size ≤ g ∧ Below w.heap.size w w' := by
  have CH := has_any (i : Int) true w h (decide_eq_true (⟨by omega, by omega⟩ : (0 : Int) ≤ (i : Int) ∧ (i : Int) < S.size)).symm
  have p1 : w.cell? ⟨d, 1, none⟩ = some (.map (some ms)) := h.blk.cell 1
  have hsz := h.ok.size
  have q0 : (Instr.lookup 54 (.map (some ms)) (.int .i64 (i : Int)) false).run Tryd.prog w = .ok (.agg (u8s (S.safe i))) w := by
    rw [h.safe.look Tryd.underlying54 (zeroS _) (int_wf (by omega) (by omega)), h.safeAt i hi]
  have hl := h.ok.len i
  have HL := Lib.hid hl
  generalize S.safe i = bs at q0 HL ⊢
  have HK : Hid (Blk ((w.alloc (.cells (u8s (List.replicate 32 0)) 70))) w.heap.size 70 (u8s (List.replicate 32 0))) := Lib.hid (Blk.new w _ _)
  clear h hl
  go_enter Tryd.func79, Tryd.ntmps79
  go_wp2_with (first | (go_at_call 78; refine CH.mono ?_; rintro e w' ⟨rfl, rfl⟩) | (refine wpList_store_row rfl 70 (.tmp 6) (.tmp 17) rfl w.heap.size _ rfl rfl 70 _ HK.out (by rw [u8s_size, HL.out]; exact sector_size) (by rw [u8s_size, u8s_size, HL.out]; rfl) (u8s_one _) ?_))
  go_ret2
  exact ⟨_, rfl, HK.out.row _, Nat.le_refl _, below_row ((Below.refl _ _).alloc (Nat.le_refl _) _) (Nat.le_refl _) _⟩
end
end Go.Proofs.YthfbidjjgkjniaaDoor
