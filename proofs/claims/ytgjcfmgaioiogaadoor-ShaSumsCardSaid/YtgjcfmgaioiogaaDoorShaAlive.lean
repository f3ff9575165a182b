/- The walk of the chapter's example (alive). -/
import Derived.Test.YtgjcfmgaioiogaaDoorShaSum
import Derived.Lib.SlBytesConst
namespace Go.Proofs.YtgjcfmgaioiogaaDoor
open Go Go.RowKit
theorem alive_sum : Sha.hex (Sha.sum [97, 98, 99]) = [98, 97, 55, 56, 49, 54, 98, 102, 56, 102, 48, 49, 99, 102, 101, 97, 52, 49, 52, 49, 52, 48, 100, 101, 53, 100, 97, 101, 50, 50, 50, 51, 98, 48, 48, 51, 54, 49, 97, 51, 57, 54, 49, 55, 55, 97, 57, 99, 98, 52, 49, 48, 102, 102, 54, 49, 102, 50, 48, 48, 49, 53, 97, 100] := by decide +kernel
theorem alive_text : textOf [98, 97, 55, 56, 49, 54, 98, 102, 56, 102, 48, 49, 99, 102, 101, 97, 52, 49, 52, 49, 52, 48, 100, 101, 53, 100, 97, 101, 50, 50, 50, 51, 98, 48, 48, 51, 54, 49, 97, 51, 57, 54, 49, 55, 55, 97, 57, 99, 98, 52, 49, 48, 102, 102, 54, 49, 102, 50, 48, 48, 49, 53, 97, 100] = ⟨#[98, 97, 55, 56, 49, 54, 98, 102, 56, 102, 48, 49, 99, 102, 101, 97, 52, 49, 52, 49, 52, 48, 100, 101, 53, 100, 97, 101, 50, 50, 50, 51, 98, 48, 48, 51, 54, 49, 97, 51, 57, 54, 49, 55, 55, 97, 57, 99, 98, 52, 49, 48, 102, 102, 54, 49, 102, 50, 48, 48, 49, 53, 97, 100]⟩ := by kernel_rfl
set_option maxRecDepth 100000 in
theorem alive_any (w : World) (ht : Tabs w) :
    Calls Tryd.prog 7 #[] w fun e w' => e = .returned (.bool true) ∧ Below w.heap.size w w' := by
  have kc := fun (w : World) (C : Array Value) (n c : Nat) => Lib.run_convert_bytes_const (P := Tryd.prog) w 24 5 C n c Tryd.underlying24 Tryd.underlying5
  have k1 := kc w #[.int .u8 97] 1 1
  have k2 := kc (w.alloc (.cells #[.int .u8 97] 5 (1, 2))) #[.int .u8 98, .int .u8 99] 2 2
  rw [show (w.alloc (.cells #[Value.int .u8 97] 5 (1, 2))).heap.size = w.heap.size + 1 from by simp] at k2
  clear kc
  go_enter Tryd.func7, Tryd.ntmps7
  go_wp2_with fail
  clear k1 k2
  have hz1 : ∀ (w : World) (o : Obj), (w.alloc o).heap.size = w.heap.size + 1 := fun w o => by simp
  have h0 : ((((w.alloc (.cells #[.int .u8 97] 5 (1, 2))).alloc (.cells #[.int .u8 98, .int .u8 99] 5 (2, 3))).alloc (.cells #[.slice (some ⟨w.heap.size, 0, none⟩) 1 1, .slice (some ⟨w.heap.size + 1, 0, none⟩) 2 2] 24))).heap[w.heap.size]? = some (.cells #[.int .u8 97] 5 (1, 2)) := by
    rw [heap_alloc_old _ _ (by simp; omega), heap_alloc_old _ _ (by simp), heap_alloc_new]
  have h1 : ((((w.alloc (.cells #[.int .u8 97] 5 (1, 2))).alloc (.cells #[.int .u8 98, .int .u8 99] 5 (2, 3))).alloc (.cells #[.slice (some ⟨w.heap.size, 0, none⟩) 1 1, .slice (some ⟨w.heap.size + 1, 0, none⟩) 2 2] 24))).heap[w.heap.size + 1]? = some (.cells #[.int .u8 98, .int .u8 99] 5 (2, 3)) := by
    rw [heap_alloc_old _ _ (by simp)]
    have h := heap_alloc_new (w.alloc (.cells #[.int .u8 97] 5 (1, 2))) (.cells #[.int .u8 98, .int .u8 99] 5 (2, 3))
    rw [hz1] at h
    exact h
  have h2 : ((((w.alloc (.cells #[.int .u8 97] 5 (1, 2))).alloc (.cells #[.int .u8 98, .int .u8 99] 5 (2, 3))).alloc (.cells #[.slice (some ⟨w.heap.size, 0, none⟩) 1 1, .slice (some ⟨w.heap.size + 1, 0, none⟩) 2 2] 24))).heap[w.heap.size + 1 + 1]? = some (.cells #[.slice (some ⟨w.heap.size, 0, none⟩) 1 1, .slice (some ⟨w.heap.size + 1, 0, none⟩) 2 2] 24 (0, 0)) := by
    have h := heap_alloc_new ((w.alloc (.cells #[.int .u8 97] 5 (1, 2))).alloc (.cells #[.int .u8 98, .int .u8 99] 5 (2, 3))) (.cells #[.slice (some ⟨w.heap.size, 0, none⟩) 1 1, .slice (some ⟨w.heap.size + 1, 0, none⟩) 2 2] 24)
    rw [hz1, hz1] at h
    exact h
  have hz : ((((w.alloc (.cells #[.int .u8 97] 5 (1, 2))).alloc (.cells #[.int .u8 98, .int .u8 99] 5 (2, 3))).alloc (.cells #[.slice (some ⟨w.heap.size, 0, none⟩) 1 1, .slice (some ⟨w.heap.size + 1, 0, none⟩) 2 2] 24))).heap.size = w.heap.size + 1 + 1 + 1 := by simp
  have hb : Below w.heap.size w ((((w.alloc (.cells #[.int .u8 97] 5 (1, 2))).alloc (.cells #[.int .u8 98, .int .u8 99] 5 (2, 3))).alloc (.cells #[.slice (some ⟨w.heap.size, 0, none⟩) 1 1, .slice (some ⟨w.heap.size + 1, 0, none⟩) 2 2] 24))) := by
    refine ((((Below.refl _ _).alloc (Nat.le_refl _) _).alloc ?_ _).alloc ?_ _) <;> simp <;> omega
  generalize ((w.alloc (.cells #[.int .u8 97] 5 (1, 2))).alloc (.cells #[.int .u8 98, .int .u8 99] 5 (2, 3))).alloc (.cells #[.slice (some ⟨w.heap.size, 0, none⟩) 1 1, .slice (some ⟨w.heap.size + 1, 0, none⟩) 2 2] 24) = w1 at h0 h1 h2 hz hb ⊢
  clear hz1
  refine (sum_any _ [.slice (some ⟨w.heap.size, 0, none⟩) 1 1, .slice (some ⟨w.heap.size + 1, 0, none⟩) 2 2] [[97], [98, 99]] w1 ?a1 rfl ?a2 ?a3 (ht.below hb (Nat.le_refl _)) (by simp) (by decide)).mono ?_
  case a1 =>
    refine ⟨_, _, rfl, Nat.le_refl _, fun _ => ⟨_, _, rfl, by omega, fun i u hu => ?_⟩⟩
    rw [cell_of_row _ _ _ _ _ _ h2, Nat.zero_add, ← hu]
    simp
  case a2 =>
    intro i u hu
    rcases i with _ | _ | i
    · obtain rfl := Option.some.inj hu
      refine ⟨_, _, rfl, Nat.le_refl _, fun _ => ⟨_, _, rfl, by omega, fun i hi => ?_⟩⟩
      have hi' : i < 1 := hi
      rcases i with _ | i
      · rw [cell_of_row _ _ _ _ _ _ h0]; rfl
      · omega
    · obtain rfl := Option.some.inj hu
      refine ⟨_, _, rfl, Nat.le_refl _, fun _ => ⟨_, _, rfl, by omega, fun i hi => ?_⟩⟩
      have hi' : i < 2 := hi
      rcases i with _ | _ | i
      · rw [cell_of_row _ _ _ _ _ _ h1]; rfl
      · rw [cell_of_row _ _ _ _ _ _ h1]; rfl
      · omega
    · simp at hu
  case a3 => intro ps hp; simp at hp; rcases hp with rfl | rfl <;> intro i <;> rcases i with _ | _ | i <;> simp
  rintro e w2 ⟨rfl, hb2⟩
  have hb3 := hb.trans (hb2.mono (by omega))
  clear hb hb2 h0 h1 h2 hz
  go_wp2_with fail
  refine (hex_any (Sha.sum [97, 98, 99]) w2 (Sha.join_len _) (Sha.join_byte _)).mono ?_
  rintro e w3 ⟨rfl, hb4⟩
  have hb5 := hb3.trans (hb4.mono hb3.size)
  clear hb3 hb4
  rw [alive_sum, alive_text]
  go_wp2_with fail
  go_ret
  exact ⟨rfl, hb5⟩
end Go.Proofs.YtgjcfmgaioiogaaDoor
