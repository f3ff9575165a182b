/- The example of layer 7; that what is made are bytes. -/
import Derived.Test.YthagldpgibpbdaaDoorDl17
import Derived.Test.YthagldpgibpbdaaDoorDl16
import Derived.Test.YthagldpgibpbdaaDoorNum
import Derived.Test.YthagldpgibpbdaaDoorPau
import Derived.Lib.SlBytesConst
namespace Go.Proofs.YthagldpgibpbdaaDoor
open Go Go.RowKit Go.Shelf
/-- the library's greatest length is some number -/
def MX (w : World) : Prop := ∃ m, w.cell? ⟨22, 0, none⟩ = some (.int .i64 m)
theorem MX.below {w w' : World} (h : MX w) {B : Nat} (hb : Below B w w') (hB : w.heap.size ≤ B) : MX w' := by
  obtain ⟨m, hm⟩ := h
  exact ⟨m, (hb.cell (p := ⟨22, 0, none⟩) (Nat.lt_of_lt_of_le (block_lt_of_cell hm) hB)).trans hm⟩
theorem MX.of_shape {W : World} (h : W.ShapedOpen Tryd.prog) : MX W := Tryd.laysM185.s1_3 W h
namespace Dl
theorem byte_of_mem {xs : List Nat} (h : ∀ x ∈ xs, x < 256) : Sha.Byte xs := fun i => by
  by_cases hi : i < xs.length
  · rw [List.getD_eq_getElem?_getD, List.getElem?_eq_getElem hi]; exact h _ (List.getElem_mem hi)
  · rw [List.getD_eq_getElem?_getD, List.getElem?_eq_none (by omega)]; decide
theorem mem_frs {text : List Nat} (ht : ∀ x ∈ text, x < 256) : ∀ (l : List (Nat × Nat)), (∀ x ∈ l, x.2 ≤ 127) → ∀ y ∈ frs text l, y < 256
  | [], _, y, h => by simp [frs] at h
  | x :: l, hl, y, h => by
    unfold frs at h
    rw [List.flatMap_cons, List.mem_append, List.mem_cons] at h
    rcases h with (h | h) | h
    · have := hl x (by simp); omega
    · exact ht y (List.mem_of_mem_drop (List.mem_of_mem_take h))
    · exact mem_frs ht l (fun z hz => hl z (by simp [hz])) y h
theorem mem_fr {text : List Nat} (ht : ∀ x ∈ text, x < 256) : ∀ y ∈ fr text, y < 256 := mem_frs ht _ fun x hx => (chF_in _ _ x (show x ∈ chF text.length _ 0 from hx)).2.1
theorem mem_mkS {base target : List Nat} (hb : base.length ≤ 65535) (ht : ∀ x ∈ target, x < 256) : ∀ (l : List (Nat × Nat × Nat)) (told : Nat), okL base target told l → ∀ y ∈ mkS target told l, y < 256
  | [], told, _, y, h => mem_fr (fun x hx => ht x (List.mem_of_mem_drop hx)) y h
  | (p, n, f) :: l, told, ⟨h1, h2, h3, h4, h5, h6, h7⟩, y, h => by
    rw [mkS, List.mem_append, List.mem_cons, List.mem_cons, List.mem_cons] at h
    rcases h with h | h | h | h | h
    · exact mem_fr (fun x hx => ht x (List.mem_of_mem_drop (List.mem_of_mem_take hx))) y h
    · omega
    · omega
    · omega
    · exact mem_mkS hb ht l _ h7 y h
theorem mem_mk {base target : List Nat} (hb : base.length ≤ 300) (hl : target.length ≤ 300) (ht : Sha.Byte target) : Sha.Byte (mk base target) := byte_of_mem fun y h => by
  unfold mk front at h
  simp only [List.cons_append, List.nil_append, List.mem_cons] at h
  rcases h with h | h | h | h | h
  · omega
  · omega
  · omega
  · omega
  · exact mem_mkS (base := base) (by omega) (mem_byte ht) _ 0 (okL_cps base target _ 0 0 (Nat.le_refl _) (Nat.le_refl _) (Nat.zero_le _)) y h
end Dl
theorem mk_example : Dl.mk [97, 98, 99, 100, 101, 102] [97, 98, 99, 100, 101, 88] = [0, 6, 0, 6, 133, 0, 0, 1, 88] := by decide +kernel
theorem rd_markedD (w : World) (l : List Nat) (t : TypeId) (fr : Nat × Nat) (c : Nat) (hc : l.length ≤ c) : Rd (w.alloc (.cells (u8s l) t fr)) (.slice (some ⟨w.heap.size, 0, none⟩) l.length c) l := by
  have hB : (w.alloc (.cells (u8s l) t fr)).heap[w.heap.size]? = some (.cells (u8s l) t fr) := heap_alloc_new w _
  refine ⟨_, _, rfl, hc, fun _ => ⟨w.heap.size, 0, rfl, (Array.getElem?_eq_some_iff.1 hB).1, fun i hi => ?_⟩⟩
  rw [Nat.zero_add]
  show (match (w.alloc (.cells (u8s l) t fr)).heap[w.heap.size]? with | some (.cells c _ _) => if (none : Option Nat).isSome then none else c[i]? | _ => none) = _
  rw [hB]
  exact u8s_get _ _ hi
set_option maxRecDepth 100000 in
set_option maxHeartbeats 1000000 in
theorem dalive_any (w : World) (hm : MX w) : Calls Tryd.prog 7 #[] w fun e w' => e = .returned (.bool true) ∧ Below w.heap.size w w' := by
  have kc := fun (w : World) (C : Array Value) (n c : Nat) => Lib.run_convert_bytes_const (P := Tryd.prog) w 22 5 C n c Tryd.underlying22 Tryd.underlying5
  obtain ⟨w1, hw1⟩ : ∃ w1, w1 = w.alloc (.cells #[.int .u8 97, .int .u8 98, .int .u8 99, .int .u8 100, .int .u8 101, .int .u8 102] 5 (6, 7)) := ⟨_, rfl⟩
  have e1 : w1.heap.size = w.heap.size + 1 := by rw [hw1]; simp
  obtain ⟨w2, hw2⟩ : ∃ w2, w2 = w1.alloc (.cells #[.int .u8 97, .int .u8 98, .int .u8 99, .int .u8 100, .int .u8 101, .int .u8 88] 5 (6, 7)) := ⟨_, rfl⟩
  have hB1 : Below w.heap.size w w1 := hw1 ▸ (Below.refl _ _).alloc (Nat.le_refl _) _
  have hB2 : Below w1.heap.size w1 w2 := hw2 ▸ (Below.refl _ _).alloc (Nat.le_refl _) _
  have hR1 : Rd w2 (.slice (some ⟨w.heap.size, 0, none⟩) 6 6) [97, 98, 99, 100, 101, 102] := Rd.below (hw1 ▸ rd_markedD w [97, 98, 99, 100, 101, 102] 5 (6, 7) 6 (by simp)) hB2 (Nat.le_refl _)
  have hR2 : Rd w2 (.slice (some ⟨w1.heap.size, 0, none⟩) 6 6) [97, 98, 99, 100, 101, 88] := by rw [hw2]; exact rd_markedD w1 [97, 98, 99, 100, 101, 88] 5 (6, 7) 6 (by simp)
  have hB : Below w.heap.size w w2 := hB1.trans (hB2.mono (by omega))
  have CM := dmake_any _ _ _ _ w2 hR1 hR2 (Dl.byte_of_mem (by decide)) (Dl.byte_of_mem (by decide)) (by decide) (by decide) (hm.below hB (Nat.le_refl _))
  rw [mk_example] at CM
  have HB := Lib.hid hB
  have e2 := hw1.symm
  have HW2 := Lib.hid hw2.symm
  clear hB hB1 hB2 hR1 hR2 hw1 hw2 e1
  go_enter Tryd.func7, Tryd.ntmps7
  go_wp2_with (go_at_call 16; refine pause ?_)
  unfold Paused
  rw [HW2.out]
  refine CM.mono ?_
  rintro e w3 ⟨v, rfl, hP⟩
  obtain ⟨A3, c3, rfl⟩ := hP.len
  have HE := Lib.hid (HB.out.trans (hP.bel.mono HB.out.size))
  have q1 : (convert 22 9 (.slice A3 9 c3)).run Tryd.prog w3 = .ok (.string ⟨#[0, 6, 0, 6, 133, 0, 0, 1, 88]⟩) w3 := conv_rd hP.rd
  have HP := Lib.hid hP
  clear hP CM kc e2
  go_wp2
  go_ret
  exact ⟨rfl, HE.out⟩
end Go.Proofs.YthagldpgibpbdaaDoor
