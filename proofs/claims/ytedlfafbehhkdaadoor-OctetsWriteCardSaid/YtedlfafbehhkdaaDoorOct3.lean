/- One field of layer 2: whether it has bytes (octets.fits), and which (octets.put). -/
import Derived.Test.YtedlfafbehhkdaaDoorOct2
namespace Go.Proofs.YtedlfafbehhkdaaDoor
open Go Go.RowKit
namespace Oc
def fits (c : Nat) (n : Int) (l : Nat) : Bool := if c = 111 then decide (l = 32) else if c = 116 then decide (l ≤ 65535) else decide (0 ≤ n) && decide (n ≤ most c)
def enc (c : Nat) (n : Int) (bs : List Nat) : List Nat := if c = 111 then bs else if c = 116 then nums 2 bs.length ++ bs else nums (nsize c).toNat n.toNat
theorem nsize_nat (c : Nat) : ∃ s : Nat, nsize c = s ∧ s ≤ 8 := by
  unfold nsize
  by_cases h1 : c = 98
  · rw [if_pos h1]; exact ⟨1, rfl, by decide⟩
  rw [if_neg h1]
  by_cases h2 : c = 119
  · rw [if_pos h2]; exact ⟨4, rfl, by decide⟩
  rw [if_neg h2]
  by_cases h3 : c = 113
  · rw [if_pos h3]; exact ⟨8, rfl, by decide⟩
  rw [if_neg h3]; exact ⟨0, rfl, by decide⟩
theorem most_le (c : Nat) : most c ≤ 4611686018427387903 := by
  unfold most
  by_cases h1 : c = 98
  · rw [if_pos h1]; decide
  rw [if_neg h1]
  by_cases h2 : c = 119
  · rw [if_pos h2]; decide
  rw [if_neg h2]
  by_cases h3 : c = 113
  · rw [if_pos h3]; decide
  rw [if_neg h3]; decide
end Oc
theorem fits_any (c : Nat) (n : Int) (A : Option Addr) (l cap : Nat) (w : World) :
    Calls Tryd.prog 22 #[.int .u8 ((c : Nat) : Int), .agg #[.int .i64 n, .slice A l cap]] w fun e w' => e = .returned (.bool (Oc.fits c n l)) ∧ w' = w.alloc (.cells #[.int .i64 n, .slice A l cap] 26) := by
  rcases Nat.decEq c 111 with h1 | h1
  · rcases Nat.decEq c 116 with h2 | h2
    · have b1 : ((c : Int) == 111) = false := by simp; omega
      have b2 : ((c : Int) == 116) = false := by simp; omega
      have HV : Oc.fits c n l = (decide (0 ≤ n) && decide (n ≤ Oc.most c)) := by unfold Oc.fits; rw [if_neg h1, if_neg h2]
      have C1 := number_any c
      generalize Oc.most c = mx at HV C1
      generalize Oc.nsize c = sx at C1
      by_cases h3 : 0 ≤ n
      · by_cases h4 : n ≤ mx
        · have H := Lib.hid (show Oc.fits c n l = true by rw [HV, decide_eq_true h3, decide_eq_true h4]; rfl)
          clear HV
          go_enter Tryd.func22, Tryd.ntmps22
          go_wp2_with (go_at_call 44; refine (C1 _).mono ?_; rintro e w' ⟨rfl, rfl⟩)
          go_ret
          exact ⟨ret_b H.out.symm, rfl⟩
        · have H := Lib.hid (show Oc.fits c n l = false by rw [HV, decide_eq_false h4, Bool.and_false])
          clear HV
          go_enter Tryd.func22, Tryd.ntmps22
          go_wp2_with (go_at_call 44; refine (C1 _).mono ?_; rintro e w' ⟨rfl, rfl⟩)
          go_ret
          exact ⟨ret_b (by rw [H.out]; exact decide_eq_false (by omega)), rfl⟩
      · have H := Lib.hid (show Oc.fits c n l = false by rw [HV, decide_eq_false h3, Bool.false_and])
        clear HV
        go_enter Tryd.func22, Tryd.ntmps22
        go_wp2_with (go_at_call 44; refine (C1 _).mono ?_; rintro e w' ⟨rfl, rfl⟩)
        go_ret
        exact ⟨ret_b H.out.symm, rfl⟩
    · subst h2
      by_cases h3 : l ≤ 65535
      · have H := Lib.hid (show Oc.fits 116 n l = true from decide_eq_true h3)
        go_enter Tryd.func22, Tryd.ntmps22
        go_wp2
        go_ret
        exact ⟨ret_b (by rw [H.out]; exact decide_eq_true (by omega)), rfl⟩
      · have H := Lib.hid (show Oc.fits 116 n l = false from decide_eq_false h3)
        go_enter Tryd.func22, Tryd.ntmps22
        go_wp2
        go_ret
        exact ⟨ret_b (by rw [H.out]; exact decide_eq_false (by omega)), rfl⟩
  · subst h1
    by_cases h3 : l = 32
    · have H := Lib.hid (show Oc.fits 111 n l = true from decide_eq_true h3)
      subst h3
      go_enter Tryd.func22, Tryd.ntmps22
      go_wp2
      go_ret
      exact ⟨ret_b H.out.symm, rfl⟩
    · have H := Lib.hid (show Oc.fits 111 n l = false from decide_eq_false h3)
      have b3 : ((l : Int) == 32) = false := by simp; omega
      go_enter Tryd.func22, Tryd.ntmps22
      go_wp2
      go_ret
      exact ⟨ret_b H.out.symm, rfl⟩
end Go.Proofs.YtedlfafbehhkdaaDoor
