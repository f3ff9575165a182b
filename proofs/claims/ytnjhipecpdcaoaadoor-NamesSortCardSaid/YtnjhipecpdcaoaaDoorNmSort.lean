/- The walks of slices.Collect and Sorted at texts, and of layer 3's Sort. -/
import Derived.Test.YtnjhipecpdcaoaaDoorNmSeq
import Derived.Test.YtnjhipecpdcaoaaDoorNmSortM
import Derived.Test.YtnjhipecpdcaoaaDoorShelf
import Derived.Sort.OwnSorted
namespace Go.Proofs.YtnjhipecpdcaoaaDoor
open Go Go.RowKit Go.Shelf Go.Sort
def lists (zs : List ByteArray) : List (List UInt8) := zs.map (·.data.toList)
theorem lists_len (zs : List ByteArray) : (lists zs).length = zs.length := by simp [lists]
theorem strs_lists (zs : List ByteArray) : zs.map Value.string = (lists zs).map encStr := by
  unfold lists
  rw [List.map_map]
  apply List.map_congr_left
  intro x _
  rfl
/-- A list of the call's own that holds these bytes' lists. -/
def Holds2 (w w' : World) (v : Value) (ls : List (List UInt8)) : Prop := w'.ownsRow w.heap.size 9 1 v ls.length (ls.map encStr) ∧ Below w.heap.size w w'
theorem collect_any (zs : List ByteArray) (hlen : zs.length ≤ 1000000) (Bs : Nat) (sv : Value) (w : World) (hBs : Bs < w.heap.size) (hc : w.cell? ⟨Bs, 0, none⟩ = some sv) (hI : Reads w.heap.size w sv zs) :
    Calls Tryd.prog 45 #[.func (.func 47) #[] #[.pointer (some ⟨Bs, 0, none⟩)]] w fun e W' => ∃ v, e = .returned v ∧ Holds2 w W' v (lists zs) := by
  have C := appendSeq_any zs hlen Bs sv w hBs hc hI
  clear hc hI
  go_enter Tryd.func45, Tryd.ntmps45
  go_wp2_with fail
  refine C.mono ?_
  rintro e w1 ⟨v, rfl, h⟩
  have H := Lib.hid h
  clear h
  go_wp2_with fail
  go_ret
  exact ⟨v, rfl, by rw [lists_len, ← strs_lists]; exact H.out.1, H.out.2⟩
set_option maxHeartbeats 1000000 in
theorem sorted_any (zs : List ByteArray) (hlen : zs.length ≤ 1000000) (Bs : Nat) (sv : Value) (w : World) (hBs : Bs < w.heap.size) (hc : w.cell? ⟨Bs, 0, none⟩ = some sv) (hI : Reads w.heap.size w sv zs) :
    Calls Tryd.prog 34 #[.func (.func 47) #[] #[.pointer (some ⟨Bs, 0, none⟩)]] w fun e W' => ∃ v, e = .returned v ∧ Holds2 w W' v (Nm.srt (lists zs)) := by
  have C := collect_any zs hlen Bs sv w hBs hc hI
  have hll : (lists zs).length ≤ 1000000 := by rw [lists_len]; exact hlen
  generalize lists zs = ss at C hll ⊢
  clear hc hI
  go_enter Tryd.func34, Tryd.ntmps34
  go_wp2_with fail
  refine C.mono ?_
  rintro e w1 ⟨v, rfl, hrow, hb⟩
  have HB := Lib.hid hb
  clear hb C
  rcases hrow.2 with ⟨rfl, hz⟩ | ⟨gb, cap, cur, rfl, hbase, hgb, r1, r2, r3, r4⟩
  · have hss : ss = [] := List.eq_nil_of_length_eq_zero hz
    subst hss
    have HRow := Lib.hid (show w1.ownsRow w.heap.size 9 1 (.slice none 0 0) (Nm.srt []).length ((Nm.srt []).map encStr) from by rw [show Nm.srt [] = [] from by simp [Nm.srt]]; exact hrow)
    clear hrow hz hll
    go_wp2_with (go_at_call 46; refine (Tryd.slices_Sort_string_none none 0 w1).mono ?_; rintro e w' ⟨rfl, rfl⟩)
    go_ret
    exact ⟨_, rfl, HRow.out, HB.out⟩
  · have hH : Holds encStr w1 gb 0 ss.toArray := holds_of_block hgb (by simpa using r4)
    have hgl : gb < w1.heap.size := (Array.getElem?_eq_some_iff.1 hgb).1
    have cS := Tryd.slices_Sort_string gb 0 cap ss w1 hH hgl (by omega)
    have HO := Lib.hid (fun n os => ownsRow_sorted (n := n) (os := os) (ts := Nm.srt ss) (Nm.srt_len ss) hbase hgb r1 r2 r3)
    have HBs := Lib.hid hbase
    clear hrow hbase hgb r1 r2 r3 r4 hH hgl
    go_wp2_with (go_at_call 46; refine cS.mono ?_; rintro e w' ⟨rfl, nn, os, rfl⟩)
    go_ret
    exact ⟨_, rfl, by rw [Nm.srt_len]; exact HO.out nn os, HB.out.grown (grownBy_sorted _) HB.out.size (fun j hj => by cases hj; exact HBs.out)⟩
theorem row_after (gb : Nat) (w : World) (q : Nat) (zs : List (List UInt8)) (hH : Holds encStr w gb 0 zs.toArray) (hg : gb < w.heap.size) :
    (∀ j x, (Lib.compact zs)[j]? = some x → (putRow encStr (Sort.ahead w q) gb 0 (Lib.compact zs ++ List.replicate (zs.length - (Lib.compact zs).length) []).toArray).cell? ⟨gb, 0 + j, none⟩ = some (encStr x)) ∧
    w.grownBy (putRow encStr (Sort.ahead w q) gb 0 (Lib.compact zs ++ List.replicate (zs.length - (Lib.compact zs).length) []).toArray) (some gb) ∧
    gb < (putRow encStr (Sort.ahead w q) gb 0 (Lib.compact zs ++ List.replicate (zs.length - (Lib.compact zs).length) []).toArray).heap.size := by
  have hl : (Lib.compact zs).length ≤ zs.length := by
    unfold Lib.compact Lib.compactUpTo
    rw [List.length_map]
    exact Nat.le_trans (List.length_filter_le _ _) (by simp)
  have hH' : Holds encStr (Sort.ahead w q) gb 0 zs.toArray := fun j hj => hH j hj
  generalize Lib.compact zs = cs at *
  refine ⟨fun j x hx => ?_, ?_, by rw [size_putRow]; exact hg⟩
  · have hj := (List.getElem?_eq_some_iff.1 hx).1
    rw [cell?_putRow encStr (Sort.ahead w q) gb 0 zs.toArray _ hH' (by simp; omega) j (by simp; omega)]
    have e : (cs ++ List.replicate (zs.length - cs.length) []).toArray[j]! = x := by
      rw [getElem!_pos _ _ (by simp; omega)]
      rw [List.getElem_toArray, List.getElem_append_left hj]
      exact (List.getElem?_eq_some_iff.1 hx).2
    rw [e]
  · have h := grownBy_sorted (w := w) (g := gb) (n := q) (os := #[]) (cs ++ List.replicate (zs.length - cs.length) []).toArray
    rwa [grow_empty] at h
/-- Texts in memory as an answer: nil, or a row. -/
def GivesList (w : World) (ls : List (List UInt8)) (e : Ending) (w' : World) : Prop :=
  ∃ v, e = .returned v ∧ Reads w'.heap.size w' v (ls.map fun l => ⟨l.toArray⟩) ∧ Below w.heap.size w w'
set_option maxHeartbeats 1000000 in
theorem nsort_any (zs : List ByteArray) (hlen : zs.length ≤ 1000000) (v : Value) (w : World) (hI : Reads w.heap.size w v zs) :
    Calls Tryd.prog 20 #[v] w (GivesList w (Nm.once (lists zs))) := by
  have CV := values_any v zs w.heap.size w hI
  have hB0 : Below w.heap.size w (w.alloc (.cells #[v] 25)) := (Below.refl _ w).alloc (Nat.le_refl _) _
  have CS := sorted_any zs hlen w.heap.size v (w.alloc (.cells #[v] 25)) (by simp) (by simp) (by
    rcases hI.below hB0 with h | ⟨b, off, cap, e, hb, hc⟩
    · exact .inl h
    · exact .inr ⟨b, off, cap, e, by simp; omega, hc⟩)
  have HB0 := Lib.hid hB0
  clear hB0
  have hll : (lists zs).length ≤ 1000000 := by rw [lists_len]; exact hlen
  generalize lists zs = ss at CS hll ⊢
  go_enter Tryd.func20, Tryd.ntmps20
  rcases hI with ⟨A, c, rfl, _⟩ | ⟨b, off, cap, rfl, _⟩
  all_goals
    go_wp2_with fail
    refine CV.mono ?_
    rintro e w1 ⟨rfl, hw1⟩
    rw [hw1] at CS HB0
    clear hw1
    go_wp2_with fail
    refine CS.mono ?_
    rintro e w2 ⟨u, rfl, hrow, hb⟩
    have HB := Lib.hid (HB0.out.trans (hb.mono HB0.out.size))
    clear hb CS
    rcases hrow.2 with ⟨rfl, hz⟩ | ⟨gb, cap, cur, rfl, hbase, hgb, r1, r2, r3, r4⟩
    · have hss : Nm.srt ss = [] := List.eq_nil_of_length_eq_zero hz
      have HO := Lib.hid (show Nm.once ss = [] by unfold Nm.once; rw [hss]; rfl)
      clear hrow hz hss hll
      go_wp2_with (go_at_call 33; refine (Tryd.slices_Compact_string_empty none 0 w2).mono ?_; rintro e w' ⟨rfl, rfl⟩)
      go_ret
      exact ⟨_, rfl, .inl ⟨none, 0, rfl, by rw [HO.out]; rfl⟩, HB.out⟩
    · have hsl := Nm.srt_len ss
      have hH : Holds encStr w2 gb 0 (Nm.srt ss).toArray := holds_of_block hgb (by simpa using r4)
      have hgl : gb < w2.heap.size := (Array.getElem?_eq_some_iff.1 hgb).1
      have cC := Tryd.slices_Compact_string gb 0 cap (Nm.srt ss) w2 hH (by omega) (by omega)
      have hcl := Nm.once_len ss
      have HBs := Lib.hid (show w.heap.size ≤ gb from Nat.le_trans HB0.out.size hbase)
      have hd := fun q => row_after gb w2 q (Nm.srt ss) hH hgl
      simp only [show Lib.compact (Nm.srt ss) = Nm.once ss from rfl] at hd cC
      have HD := Lib.hid hd
      clear hd
      clear hrow hbase hgb r1 r2 r3 r4 hH hgl hsl
      generalize Nm.srt ss = zs' at *
      go_wp2_with (go_at_call 33; refine cC.mono ?_; rintro e w' ⟨rfl, q, rfl⟩)
      go_ret
      obtain ⟨d1, d2, d3⟩ := HD.out q
      refine ⟨_, rfl, .inr ⟨gb, 0, cap, by rw [List.length_map]; rfl, d3, fun j x hx => ?_⟩, HB.out.grown d2 HB.out.size (fun j hj => by cases hj; exact HBs.out)⟩
      rw [List.getElem?_map] at hx
      cases ho : (Nm.once ss)[j]? with
      | none => rw [ho] at hx; cases hx
      | some l => rw [ho] at hx; cases hx; exact d1 j l ho
end Go.Proofs.YtnjhipecpdcaoaaDoor
