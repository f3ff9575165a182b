/- The chapter's example of layer 6: alive. -/
import Derived.Test.YtenodghocenjaaaDoorOb9
import Derived.Lib.SlBytesConst
namespace Go.Proofs.YtenodghocenjaaaDoor
open Go Go.RowKit
theorem rd_marked (w : World) (l : List Nat) (t : TypeId) (fr : Nat × Nat) (c : Nat) (hc : l.length ≤ c) : Rd (w.alloc (.cells (u8s l) t fr)) (.slice (some ⟨w.heap.size, 0, none⟩) l.length c) l := by
  have hB : (w.alloc (.cells (u8s l) t fr)).heap[w.heap.size]? = some (.cells (u8s l) t fr) := heap_alloc_new w _
  refine ⟨_, _, rfl, hc, fun _ => ⟨w.heap.size, 0, rfl, (Array.getElem?_eq_some_iff.1 hB).1, fun i hi => ?_⟩⟩
  rw [Nat.zero_add]
  show (match (w.alloc (.cells (u8s l) t fr)).heap[w.heap.size]? with | some (.cells c _ _) => if (none : Option Nat).isSome then none else c[i]? | _ => none) = _
  rw [hB]
  exact u8s_get _ _ hi
abbrev blobCells (g : Nat) : Array Value := #[.int .i64 1, .slice (some ⟨g, 0, none⟩) 1 1, .slice none 0 0, .int .u8 0, .int .u8 0, .int .u8 0, .int .u8 0, .int .u8 0, .int .u8 0, .int .u8 0, .int .u8 0, .int .u8 0, .int .u8 0, .int .u8 0, .int .u8 0, .int .u8 0, .int .u8 0, .int .u8 0, .int .u8 0, .int .u8 0, .int .u8 0, .int .u8 0, .int .u8 0, .int .u8 0, .int .u8 0, .int .u8 0, .int .u8 0, .int .u8 0, .int .u8 0, .int .u8 0, .int .u8 0, .int .u8 0, .int .u8 0, .int .u8 0, .int .u8 0, .slice none 0 0]
set_option maxRecDepth 100000 in
set_option maxHeartbeats 1000000 in
theorem oalive_any (w : World) : Calls Tryd.prog 6 #[] w fun e w' => e = .returned (.bool true) ∧ Below w.heap.size w w' := by
  obtain ⟨w2, hw2⟩ : ∃ w2, w2 = w.alloc (.cells #[.int .u8 120] 5 (1, 2)) := ⟨_, rfl⟩
  have hB : Below w.heap.size w w2 := hw2 ▸ (Below.refl _ _).alloc (Nat.le_refl _) _
  have hR : Rd w2 (.slice (some ⟨w.heap.size, 0, none⟩) 1 1) [120] := hw2 ▸ rd_marked w [120] 5 (1, 2) 1 (by simp)
  have hC : ObC w2 blobX (blobCells w.heap.size) (some ⟨w.heap.size, 0, none⟩) 1 none 0 none 0 := ⟨rfl, hR, RdK.nil _ _, RdK.nil _ _⟩
  have kc := fun (w : World) (C : Array Value) (n c : Nat) => Lib.run_convert_bytes_const (P := Tryd.prog) w 22 5 C n c Tryd.underlying22 Tryd.underlying5
  have CB := bytes_blob _ _ _ _ _ _ _ w2 hC
  have HB := Lib.hid hB
  have e2 := hw2.symm
  clear hB hR hC hw2
  go_enter Tryd.func6, Tryd.ntmps6
  go_wp2_with (go_at_call 13; refine pause ?_)
  unfold Paused
  refine CB.mono ?_
  rintro e w3 ⟨v, rfl, hr, hb⟩
  have HE := Lib.hid (below_next HB.out (by have h := hb; exact ⟨h.os, h.tape, h.output, h.size, h.block⟩))
  have q1 : (convert 22 9 v).run Tryd.prog w3 = .ok (.string ⟨#[98, 120]⟩) w3 := conv_rd hr
  clear hr hb CB e2 kc
  go_wp2
  go_ret
  exact ⟨rfl, HE.out⟩
end Go.Proofs.YtenodghocenjaaaDoor
