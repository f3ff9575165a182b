/- The chapter's example (alive). -/
import Derived.Test.YtbllilokcalbcaaDoorMOct17s
import Derived.Lib.ConvBytes
namespace Go.Proofs.YtbllilokcalbcaaDoor
open Go Go.RowKit
theorem onum_any (n : Int) (w : World) : Calls Tryd.prog 60 #[.int .i64 n] w fun e w' => e = .returned (.agg #[.int .i64 n, .slice none 0 0]) ∧ Below w.heap.size w w' := by
  have HB : Hid (Below w.heap.size w (w.alloc (.cells #[.int .i64 n, .slice none 0 0] 100))) := Lib.hid ((Below.refl _ _).alloc (Nat.le_refl _) _)
  have HK : Hid (Blk (w.alloc (.cells #[.int .i64 n, .slice none 0 0] 100)) w.heap.size 100 #[.int .i64 n, .slice none 0 0]) := Lib.hid (Blk.new w _ _)
  go_enter Tryd.func60, Tryd.ntmps60
  go_wp2
  exact bodyPost_ret (v := .agg #[.int .i64 n, .slice none 0 0]) (results_cell_row rfl _ _ w.heap.size 100 _ (0, 0) _ rfl HK.out Tryd.underlying100 rfl (by kernel_rfl)) rfl ⟨rfl, HB.out⟩
theorem below_bytesWorld (w : World) (e : TypeId) (s : ByteArray) : Below w.heap.size w (Lib.bytesWorld w e s) :=
  ⟨rfl, rfl, rfl, by rw [Lib.bytesWorld_size]; omega, fun i hi => Lib.bytesWorld_at_old w e s i hi⟩
theorem ab_conv (w : World) : ∃ c w2, (convert 9 39 (.string ⟨#[97, 98]⟩)).run Tryd.prog w = .ok (.slice (some ⟨w.heap.size, 0, none⟩) 2 c) w2 ∧ Rd w2 (.slice (some ⟨w.heap.size, 0, none⟩) 2 c) [97, 98] ∧ Below w.heap.size w w2 := by
  refine ⟨_, _, Lib.run_convert_string_bytes w 9 39 5 ⟨#[97, 98]⟩ Tryd.underlying9 Tryd.underlying39 Tryd.underlying5, ?_, below_bytesWorld w _ _⟩
  refine ⟨_, _, rfl, ?_, fun _ => ⟨_, _, rfl, by rw [Lib.bytesWorld_size]; omega, fun i hi => ?_⟩⟩
  · exact grownCap_ge w 2 0 5
  · rw [Nat.zero_add, Lib.bytesWorld_cell w _ _ i (by exact hi)]
    have hi2 : i < 2 := hi
    rcases i with _ | _ | i
    · rfl
    · rfl
    · omega
def exFlds (g c : Nat) : List Fld := [⟨1, none, 0, 0, []⟩, ⟨0, some ⟨g, 0, none⟩, 2, c, [97, 98]⟩]
theorem ex_bytes : Oc.encs [98, 116] (exFlds 0 0) = [1, 0, 2, 97, 98] := by decide +kernel
theorem ex_row {w : World} {g c : Nat} (h : Rd w (.slice (some ⟨g, 0, none⟩) 2 c) [97, 98]) : FRow (w.alloc (.cells #[.int .i64 1, .slice none 0 0, .int .i64 0, .slice (some ⟨g, 0, none⟩) 2 c] 100)) w.heap.size 0 (exFlds g c) := by
  have hb : Blk (w.alloc (.cells #[.int .i64 1, .slice none 0 0, .int .i64 0, .slice (some ⟨g, 0, none⟩) 2 c] 100)) w.heap.size 100 #[.int .i64 1, .slice none 0 0, .int .i64 0, .slice (some ⟨g, 0, none⟩) 2 c] := Blk.new w _ _
  refine ⟨fun i hi => ?_, fun i hi => ?_, fun f hf => ?_, hb.lt⟩
  · have hi2 : i < 2 := hi
    rcases i with _ | _ | i
    · exact hb.cell 0
    · exact hb.cell 2
    · omega
  · have hi2 : i < 2 := hi
    rcases i with _ | _ | i
    · exact hb.cell 1
    · exact hb.cell 3
    · omega
  · have hr := h.below ((Below.refl w.heap.size w).alloc (Nat.le_refl _) (.cells #[.int .i64 1, .slice none 0 0, .int .i64 0, .slice (some ⟨g, 0, none⟩) 2 c] 100)) (Nat.le_refl _)
    rcases List.mem_cons.1 hf with rfl | hf
    · exact ⟨Rd.nil [] rfl, rfl⟩
    · rw [List.mem_singleton.1 hf]; exact ⟨hr, rfl⟩
end Go.Proofs.YtbllilokcalbcaaDoor
