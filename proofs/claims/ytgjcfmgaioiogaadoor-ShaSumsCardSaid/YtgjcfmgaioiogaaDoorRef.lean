/- cartageref01.right is a turn to the left by what is left of 32. -/
import Derived.Test.YtgjcfmgaioiogaaDoorShaSpread
namespace Go.Proofs.YtgjcfmgaioiogaaDoor
open Go Go.RowKit
theorem right_any (x n : Nat) (w : World) (hx : x < 4294967296) (h1 : 1 ≤ n) (h31 : n ≤ 31) :
    Calls Tryd.prog 27 #[.int .u32 x, .int .u64 (n : Int)] w fun e w' => e = .returned (.int .u32 (Sha.rl x (32 - n) : Nat)) ∧ w = w' := by
  go_enter Tryd.func27, Tryd.ntmps27
  go_wp2
  go_ret
  refine ⟨?_, rfl⟩
  congr 2
  have h2 : x / 2^n ≤ x := Nat.div_le_self _ _
  have e := u32_or (x / 2^n) (x * 2^(32-n) % 4294967296) (by omega) (by omega)
  unfold Sha.rl
  rw [show 32 - (32 - n) = n by omega, Nat.or_comm, ← e]
  simp
set_option maxRecDepth 100000 in
theorem reftable_any (w : World) :
    Calls Tryd.prog 26 #[] w fun e w' => e = .returned (.slice (some ⟨w.heap.size, 0, none⟩) 64 64) ∧ Blk w' w.heap.size 63 (u32s Sha.K) ∧ Below w.heap.size w w' := by
  go_enter Tryd.func26, Tryd.ntmps26
  go_wp2_with fail
  go_ret
  exact ⟨rfl, Blk.new w _ _, (Below.refl _ _).alloc (Nat.le_refl _) _⟩
end Go.Proofs.YtgjcfmgaioiogaaDoor
