/- The walk of the reference's Unhex. -/
import Derived.Test.YtmfdahigfnhidaaDoorTexts2
namespace Go.Proofs.YtmfdahigfnhidaaDoor
open Go Go.RowKit
namespace Sha
/-- what the reference has behind k figures -/
def refPart (l : List Nat) (k : Nat) : List Nat := (List.range 32).map fun j => if 2 * j + 1 < k then 16 * fgN (l.getD (2*j) 0) + fgN (l.getD (2*j+1) 0) else if 2 * j < k then fgN (l.getD (2*j) 0) else 0
theorem refPart_len (l : List Nat) (k : Nat) : (refPart l k).length = 32 := by simp [refPart]
theorem refPart_get (l : List Nat) (k j : Nat) (h : j < 32) : (refPart l k).getD j 0 = if 2 * j + 1 < k then 16 * fgN (l.getD (2*j) 0) + fgN (l.getD (2*j+1) 0) else if 2 * j < k then fgN (l.getD (2*j) 0) else 0 := by
  simp [refPart, List.getD, h]
theorem list_ext {a b : List Nat} (h : a.length = b.length) (he : ∀ i, i < a.length → a.getD i 0 = b.getD i 0) : a = b := by
  apply List.ext_getElem h
  intro i h1 h2
  have := he i h1
  simpa [List.getD, h1, h2] using this
theorem getD_set (l : List Nat) (i j x : Nat) (h : j < l.length) : (l.set i x).getD j 0 = if i = j then x else l.getD j 0 := by
  simp only [List.getD, List.getElem?_set]
  by_cases e : i = j
  · subst e; simp [h]
  · simp [e]
theorem refPart_zero (l : List Nat) : refPart l 0 = List.replicate 32 0 := by
  apply list_ext (by simp [refPart])
  intro i hi
  rw [refPart_len] at hi
  rw [refPart_get l 0 i hi, if_neg (by omega), if_neg (by omega)]
  simp only [List.getD, List.getElem?_replicate, hi, if_true, Option.getD_some]
theorem refPart_all (l : List Nat) : refPart l 64 = unhex l := by
  apply list_ext (by rw [refPart_len, unhex_len])
  intro i hi
  rw [refPart_len] at hi
  rw [refPart_get l 64 i hi, unhex_get l i hi, if_pos (by omega)]
theorem refPart_lt (l : List Nat) (k : Nat) (h : k < 64) : (refPart l k).getD (k / 2) 0 < 16 := by
  rw [refPart_get l k (k / 2) (by omega)]
  have := fgN_lt (l.getD (2 * (k / 2)) 0)
  rw [if_neg (by omega)]
  split <;> omega
theorem refPart_step (l : List Nat) (k : Nat) (h : k < 64) : (refPart l k).set (k / 2) ((refPart l k).getD (k / 2) 0 * 16 + fgN (l.getD k 0)) = refPart l (k + 1) := by
  apply list_ext (by rw [List.length_set, refPart_len, refPart_len])
  intro i hi
  rw [List.length_set, refPart_len] at hi
  rw [getD_set _ _ _ _ (by rw [refPart_len]; exact hi), refPart_get l (k + 1) i hi]
  by_cases e : k / 2 = i
  · rw [if_pos e, refPart_get l k (k / 2) (by omega)]
    rcases Nat.mod_two_eq_zero_or_one k with hk | hk
    · rw [if_neg (by omega), if_neg (by omega), if_neg (by omega), if_pos (by omega)]
      rw [show 2 * i = k by omega]; omega
    · rw [if_neg (by omega), if_pos (by omega), if_pos (by omega)]
      rw [show 2 * i + 1 = k by omega, show 2 * (k / 2) = 2 * i by omega]; omega
  · rw [if_neg e, refPart_get l k i hi]
    by_cases h1 : 2 * i + 1 < k
    · rw [if_pos h1, if_pos (by omega)]
    · by_cases h2 : 2 * i < k
      · omega
      · rw [if_neg h1, if_neg h2, if_neg (by omega), if_neg (by omega)]
end Sha
structure RUnxW (w : World) (l : List Nat) (k : Nat) (wr : World) : Prop where
  res : ∃ cs, cs.size = 32 ∧ Blk wr w.heap.size 26 cs
  row : Blk wr (w.heap.size+1) 26 (u8s (Sha.refPart l k))
  bel : Below w.heap.size w wr
theorem RUnxW.start (w : World) (l : List Nat) : RUnxW w l 0 ((w.alloc (.cells (u8s (List.replicate 32 0)) 26)).alloc (.cells (u8s (List.replicate 32 0)) 26)) := by
  refine ⟨⟨_, by rw [u8s_size]; rfl, (Blk.new w _ _).alloc _⟩, ?_, ?_⟩
  · have h := Blk.new (w.alloc (.cells (u8s (List.replicate 32 0)) 26)) 26 (u8s (List.replicate 32 0))
    have e : (w.alloc (.cells (u8s (List.replicate 32 0)) 26)).heap.size = w.heap.size + 1 := by simp
    rw [e] at h
    rw [Sha.refPart_zero]
    exact h
  · refine ((Below.refl _ _).alloc (Nat.le_refl _) _).alloc ?_ _; simp
theorem RUnxW.start2 (w : World) (l : List Nat) : RUnxW w l 0 (((w.alloc (.cells (u8s (List.replicate 32 0)) 26)).alloc (.cells (u8s (List.replicate 32 0)) 26)).setRow (w.heap.size + 1) (u8s (List.replicate 32 0))) := by
  have h := RUnxW.start w l
  obtain ⟨cs, hz, hc⟩ := h.res
  refine ⟨⟨cs, hz, hc.farRow (by omega) _⟩, ?_, below_row h.bel (by omega) _⟩
  have h1 := h.row.row (u8s (List.replicate 32 0))
  rw [Sha.refPart_zero]
  exact h1
theorem RUnxW.put {w : World} {l : List Nat} {k : Nat} {wr : World} (h : RUnxW w l k wr) (hk : k < 64) {v : Int} (hv : v = ((Sha.refPart l k).getD (k / 2) 0 * 16 + Sha.fgN (l.getD k 0) : Nat)) :
    RUnxW w l (k + 1) (wr.setCell ⟨w.heap.size + 1, k / 2, none⟩ (.int .u8 v)) := by
  obtain ⟨cs, hz, hc⟩ := h.res
  refine ⟨⟨cs, hz, hc.far (by simp) _⟩, ?_, h.bel.setCell (p := ⟨w.heap.size + 1, k / 2, none⟩) (by show w.heap.size ≤ w.heap.size + 1; omega) _⟩
  have h1 := h.row.set_ (k / 2) (.int .u8 v)
  rw [hv, u8s_set, Sha.refPart_step l k hk] at h1
  rw [hv]
  exact h1
theorem a32_info : (Tryd.prog.info? 26).map (·.size) = some 32 := by kernel_rfl
def RUnxPost (s : ByteArray) (w : World) (e : Ending) (w' : World) : Prop :=
  (Sha.good (sb s) → e = .returned (.tuple #[.agg (u8s (Sha.unhex (sb s))), .bool true])) ∧ (¬ Sha.good (sb s) → e = .returned (.tuple #[.agg (u8s (List.replicate 32 0)), .bool false])) ∧ Below w.heap.size w w'
set_option maxRecDepth 100000 in
theorem runhex_any (s : ByteArray) (w : World) (hl : s.size = 64) :
    Calls Tryd.prog 19 #[.string s] w (RUnxPost s w) := by
  have hn : ((s.size : Int) != 64) = false := by rw [hl]; rfl
  have HLEN := Lib.hid hl
  have hres0 : Blk ((w.alloc (.cells (u8s (List.replicate 32 0)) 26)).alloc (.cells (u8s (List.replicate 32 0)) 26)) (w.heap.size + 1) 26 (u8s (List.replicate 32 0)) := by
    have h := (RUnxW.start w []).row
    rw [Sha.refPart_zero] at h
    exact h
  have HR0 := Lib.hid hres0
  clear hl hres0
  go_enter Tryd.func19, Tryd.ntmps19
  go_wp2_with (first | (refine wpList_store_row rfl 26 (.tmp 4) (.tmp 7) rfl (w.heap.size + 1) (u8s (List.replicate 32 0)) rfl rfl 26 _ HR0.out (by kernel_rfl) (by kernel_rfl) (u8s_one _) ?_))
  go_loopw [5] (fun i wr => ∃ k : Nat, k ≤ 64 ∧ i = .int .i64 k ∧ RUnxW w (sb s) k wr ∧ ∀ i, i < k → 0 ≤ Sha.fgI ((sb s).getD i 0)) (fun i _ => 64 - (intOf i).toNat)
  case atStart => exact ⟨0, by omega, rfl, RUnxW.start2 w (sb s), fun i hi => by omega⟩
  case round =>
    obtain ⟨k, hk, rfl, hJ, hg⟩ := hrel
    have HG := Lib.hid hg
    clear hg
    by_cases hlt : k < 64
    · have hsz : s.size = 64 := HLEN.out
      have b1 := sb_byte s k
      have i0 : (0 : Int) ≤ ((k : Nat) : Int) := by omega
      have i1 : ((k : Nat) : Int) < 64 := by omega
      have i2 : (0 : Int) ≤ ((k : Nat) : Int) / 2 := by omega
      have i3 : ((k : Nat) : Int) / 2 < 32 := by omega
      have hx1 : ∀ w', (Instr.index 9 (.string s) (.int .i64 ((k : Nat) : Int))).run Tryd.prog w' = .ok (.int .u8 (((sb s).getD k 0 : Nat) : Int)) w' := fun w' => index_str s _ _ _ (by omega) (by omega) w'
      clear hsz
      obtain ⟨c1, hc1⟩ : ∃ c, c = (sb s).getD k 0 := ⟨_, rfl⟩
      rw [← hc1] at b1 hx1
      have HC1 := Lib.hid hc1
      clear hc1
      have l1 := Sha.fgI_hi c1
      rcases Int.lt_or_le (Sha.fgI c1) 0 with n1 | n1
      · have HB : Hid (¬ Sha.good (sb s)) := Lib.hid fun h => by have := h k (by omega); rw [← HC1.out] at this; omega
        have hbel := hJ.bel
        obtain ⟨cs, hz, hres⟩ := hJ.res
        have HZ := Lib.hid hz
        have HRES := Lib.hid hres
        clear hz hres
        go_wp2_with fail
        refine (figure_any c1 b1 _).mono ?_
        rintro e w2 ⟨rfl, rfl⟩
        go_wp2_with (first | (refine wpList_store_row rfl 26 (.tmp 2) (.tmp 22) rfl w.heap.size (u8s (List.replicate 32 0)) rfl rfl 26 _ HRES.out (by kernel_rfl) (by rw [HZ.out]; rfl) (u8s_one _) ?_))
        refine bodyPost_ret (v := .tuple #[.agg (u8s (List.replicate 32 0)), .bool false]) (results_row_tmp rfl _ _ w.heap.size 26 _ (0, 0) _ _ rfl (HRES.out.row _) Tryd.underlying26 rfl (by kernel_rfl) rfl) rfl ?_
        exact ⟨fun h => absurd h HB.out, fun _ => rfl, below_row hbel (Nat.le_refl _) _⟩
      · have HNEW : Hid (∀ i, i < k + 1 → 0 ≤ Sha.fgI ((sb s).getD i 0)) := Lib.hid fun i hi => by
          rcases Nat.lt_or_ge i k with h | h
          · exact HG.out i h
          · obtain rfl : i = k := by omega
            rw [← HC1.out]; exact n1
        have hp := Sha.refPart_lt (sb s) k hlt
        have e1 := hJ.row.cell (k / 2)
        rw [u8s_get _ _ (by rw [Sha.refPart_len]; omega)] at e1
        have e2 := hJ.row.frozen (k / 2)
        obtain ⟨y, hy⟩ : ∃ y, y = (Sha.refPart (sb s) k).getD (k / 2) 0 := ⟨_, rfl⟩
        rw [← hy] at e1 hp
        have HY := Lib.hid hy
        clear hy
        go_wp2_with fail
        refine (figure_any c1 b1 _).mono ?_
        rintro e w2 ⟨rfl, rfl⟩
        go_wp2_with fail
        go_roundw
        case rel => exact ⟨k + 1, by omega, by go_num, hJ.put hlt (by rw [← HY.out, ← HC1.out]; unfold Sha.fgN; omega), HNEW.out⟩
        case measure => simp [intOf]; omega
    · have HK := Lib.hid (show k = 64 by omega)
      have HGG : Hid (Sha.good (sb s)) := Lib.hid fun i hi => HG.out i (by omega)
      have HR : Hid (Blk wr (w.heap.size + 1) 26 (u8s (Sha.unhex (sb s)))) := by
        have h := hJ.row
        rw [HK.out, Sha.refPart_all] at h
        exact Lib.hid h
      have HL := Lib.hid (show (u8s (Sha.unhex (sb s))).size = 32 by rw [u8s_size, Sha.unhex_len])
      have hbel := hJ.bel
      obtain ⟨cs, hz, hres⟩ := hJ.res
      have HC := Lib.hid hres
      have HZ := Lib.hid hz
      clear hz hres
      go_wp2_with (first | (refine wpList_load_row rfl 26 (.tmp 4) rfl (w.heap.size + 1) rfl 26 _ (0,0) _ HR.out Tryd.underlying26 rfl (by rw [HL.out]; exact a32_info) ?_) | (refine wpList_store_row rfl 26 (.tmp 2) (.tmp 34) rfl w.heap.size _ rfl rfl 26 _ HC.out (by rw [HL.out]; exact a32_info) (by rw [HL.out]; exact HZ.out) (u8s_one _) ?_))
      refine bodyPost_ret (v := .tuple #[.agg (u8s (Sha.unhex (sb s))), .bool true]) (results_row_tmp rfl _ _ w.heap.size 26 _ (0, 0) _ _ rfl (HC.out.row _) Tryd.underlying26 rfl (by rw [HL.out]; exact a32_info) rfl) rfl ?_
      exact ⟨fun _ => rfl, fun h => absurd HGG.out h, below_row hbel (Nat.le_refl _) _⟩
set_option maxRecDepth 100000 in
theorem runhex_long (s : ByteArray) (w : World) (hl : s.size ≠ 64) (hm : s.size ≤ 9223372036854775807) :
    Calls Tryd.prog 19 #[.string s] w fun e w' => e = .returned (.tuple #[.agg (u8s (List.replicate 32 0)), .bool false]) ∧ Below w.heap.size w w' := by
  have hn : ((s.size : Int) != 64) = true := by rw [bne_iff_ne]; omega
  have h0 := RUnxW.start w []
  have h2 := RUnxW.start2 w []
  have hr0 := h0.row
  have hr2 := h2.row
  rw [Sha.refPart_zero] at hr0 hr2
  have HR0 := Lib.hid hr0
  have HR2 := Lib.hid hr2
  have HRES := Lib.hid h2.res
  have HBEL := Lib.hid h2.bel
  clear hl h0 h2 hr0 hr2
  go_enter Tryd.func19, Tryd.ntmps19
  obtain ⟨cs, hz, hres⟩ := HRES.out
  have HZ := Lib.hid hz
  have HC := Lib.hid hres
  clear hz hres
  go_wp2_with (first | (refine wpList_store_row rfl 26 (.tmp 4) (.tmp 7) rfl (w.heap.size + 1) (u8s (List.replicate 32 0)) rfl rfl 26 _ HR0.out (by kernel_rfl) (by kernel_rfl) (u8s_one _) ?_) | (refine wpList_load_row rfl 26 (.tmp 4) rfl (w.heap.size + 1) rfl 26 _ (0,0) _ HR2.out Tryd.underlying26 rfl (by kernel_rfl) ?_) | (refine wpList_store_row rfl 26 (.tmp 2) (.tmp 11) rfl w.heap.size (u8s (List.replicate 32 0)) rfl rfl 26 _ HC.out (by kernel_rfl) (by rw [HZ.out]; rfl) (u8s_one _) ?_))
  refine bodyPost_ret (v := .tuple #[.agg (u8s (List.replicate 32 0)), .bool false]) (results_row_tmp rfl _ _ w.heap.size 26 _ (0, 0) _ _ rfl (HC.out.row _) Tryd.underlying26 rfl (by kernel_rfl) rfl) rfl ?_
  exact ⟨rfl, below_row HBEL.out (Nat.le_refl _) _⟩
end Go.Proofs.YtmfdahigfnhidaaDoor
