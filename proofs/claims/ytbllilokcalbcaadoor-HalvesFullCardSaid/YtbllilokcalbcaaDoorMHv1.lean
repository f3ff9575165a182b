/- Layer 5, the small ones: must; how many sectors records and halves have; the document's own count. -/
import Derived.Test.YtbllilokcalbcaaDoorMBase
import Derived.Test.YtbllilokcalbcaaDoorMErr
namespace Go.Proofs.YtbllilokcalbcaaDoor
open Go Go.RowKit
namespace Hv
/-- how many sectors a record has -/
def need (n : Int) : Nat := if n < 1 ∨ 3000 < n then 0 else ((n + 41) / 32).toNat
theorem need_of {n : Nat} (h1 : 1 ≤ n) (h2 : n ≤ 3000) : need n = (n + 41) / 32 := by
  unfold need
  rw [if_neg (by omega)]
  omega
theorem need_none {n : Int} (h : n < 1 ∨ 3000 < n) : need n = 0 := by unfold need; rw [if_pos h]
theorem need_le (n : Int) : need n ≤ 95 := by
  unfold need
  split
  · omega
  · omega
def halfOf (n : Int) : Nat := if 0 < n then (n / 2).toNat else 0
end Hv
theorem must_nil (w : World) : Calls Tryd.prog 47 #[.nilIface] w fun e w' => e = .returned (.tuple #[]) ∧ w = w' := by
  go_enter Tryd.func47, Tryd.ntmps47
  go_wp2
  go_end0
  exact ⟨rfl, rfl⟩
theorem neq_ev (a : Addr) (w : World) : (binOp .neq 27 (ev a) .nilIface).run Tryd.prog w = .ok (.bool true) w := by kernel_rfl
theorem must_ev (a : Addr) (w : World) : Calls Tryd.prog 47 #[ev a] w fun e w' => e = .panicked [{ v := ev a, recovered := false }] ∧ w = w' := by
  have q0 := neq_ev a
  go_enter Tryd.func47, Tryd.ntmps47
  go_wp2
  exact ⟨rfl, rfl, rfl⟩
theorem need_any (n : Int) (w : World) (hn : (Lit.int .i64 n).wf = true) : Calls Tryd.prog 20 #[.int .i64 n] w fun e w' => e = .returned (.int .i64 (Hv.need n : Nat)) ∧ w = w' := by
  by_cases h1 : n < 1
  · rw [Hv.need_none (Or.inl h1)]
    go_enter Tryd.func20, Tryd.ntmps20
    go_wp2
    go_ret
    exact ⟨rfl, rfl⟩
  · by_cases h2 : 3000 < n
    · rw [Hv.need_none (Or.inr h2)]
      go_enter Tryd.func20, Tryd.ntmps20
      go_wp2
      go_ret
      exact ⟨rfl, rfl⟩
    · obtain ⟨m, rfl⟩ : ∃ m : Nat, n = m := ⟨n.toNat, by omega⟩
      have hm : ((Hv.need (m : Int) : Nat) : Int) = ((m : Int) + 41) / 32 := by rw [Hv.need_of (by omega) (by omega)]; omega
      rw [hm]
      go_enter Tryd.func20, Tryd.ntmps20
      go_wp2
      go_ret
      refine ⟨?_, rfl⟩
      show Ending.returned (.int .i64 ((10 + (m : Int) + 32 - 1) / 32)) = _
      rw [show 10 + (m : Int) + 32 - 1 = (m : Int) + 41 by omega]
theorem half_any (n : Int) (w : World) (hn : (Lit.int .i64 n).wf = true) : Calls Tryd.prog 22 #[.int .i64 n] w fun e w' => e = .returned (.int .i64 (Hv.halfOf n : Nat)) ∧ w = w' := by
  have h2 := hn
  simp [Lit.wf, IntKind.min, IntKind.max, IntKind.signed, IntKind.bits] at h2
  by_cases h1 : 0 < n
  · obtain ⟨m, rfl⟩ : ∃ m : Nat, n = m := ⟨n.toNat, by omega⟩
    have hm : ((Hv.halfOf (m : Int) : Nat) : Int) = (m : Int) / 2 := by unfold Hv.halfOf; rw [if_pos h1]; omega
    rw [hm]
    clear hn
    go_enter Tryd.func22, Tryd.ntmps22
    go_wp2
    go_ret
    refine ⟨?_, rfl⟩
    first
      | rfl
      | (show Ending.returned (.int .i64 (wrap64 ((m : Int).tdiv 2))) = _
         rw [Int.tdiv_eq_ediv_of_nonneg (by omega), IntWalk.wrap64_in _ (by omega)])
  · have hm : Hv.halfOf n = 0 := by unfold Hv.halfOf; rw [if_neg h1]
    rw [hm]
    clear hn
    by_cases h3 : n = 0
    · subst h3
      go_enter Tryd.func22, Tryd.ntmps22
      go_wp2
      go_ret
      exact ⟨rfl, rfl⟩
    · have i3 : n < 0 := by omega
      go_enter Tryd.func22, Tryd.ntmps22
      go_wp2
      go_ret
      exact ⟨rfl, rfl⟩
theorem refneed_any (n : Int) (w : World) : Calls Tryd.prog 21 #[.int .i64 n] w fun e w' => e = .returned (.int .i64 (Hv.need n : Nat)) ∧ w = w' := by
  by_cases h1 : n < 1
  · rw [Hv.need_none (Or.inl h1)]
    go_enter Tryd.func21, Tryd.ntmps21
    go_wp2
    go_ret
    exact ⟨rfl, rfl⟩
  · by_cases h2 : 3000 < n
    · rw [Hv.need_none (Or.inr h2)]
      go_enter Tryd.func21, Tryd.ntmps21
      go_wp2
      go_ret
      exact ⟨rfl, rfl⟩
    · obtain ⟨m, rfl⟩ : ∃ m : Nat, n = m := ⟨n.toNat, by omega⟩
      have hm : Hv.need (m : Int) = (m + 41) / 32 := Hv.need_of (by omega) (by omega)
      rw [hm]
      obtain ⟨q, hq⟩ : ∃ q, q = (m + 41) / 32 := ⟨_, rfl⟩
      have f1 : m + 10 ≤ 32 * q := by omega
      have f2 : 32 * q < m + 42 := by omega
      have f3 : q ≤ 100 := by omega
      rw [← hq]
      clear hm hq
      go_enter Tryd.func21, Tryd.ntmps21
      go_wp2
      go_loop [3] (fun j => ∃ k : Nat, k ≤ q ∧ j = .int .i64 k) (fun j => q - (intOf j).toNat)
      case atStart => exact ⟨0, Nat.zero_le _, rfl⟩
      case round =>
        obtain ⟨k, hk, rfl⟩ := hrel
        by_cases hlt : k < q
        · have i0 : 32 * ((k : Nat) : Int) < (m : Int) + 10 := by omega
          go_wp2
          go_round
          case rel => exact ⟨k + 1, by omega, by go_num⟩
          case measure => simp [intOf]; omega
        · obtain rfl : k = q := by omega
          have i0 : ¬ 32 * ((k : Nat) : Int) < (m : Int) + 10 := by omega
          go_wp2
          go_ret
          exact ⟨rfl, rfl⟩
end Go.Proofs.YtbllilokcalbcaaDoor
