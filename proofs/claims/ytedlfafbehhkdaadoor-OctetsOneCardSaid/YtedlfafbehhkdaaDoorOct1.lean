/- Layer 2's letters: which there are, how long their numbers are, the greatest of them; a number as bytes. -/
import Derived.Test.YtedlfafbehhkdaaDoorNmLays
import Derived.Test.YtedlfafbehhkdaaDoorByt
namespace Go.Proofs.YtedlfafbehhkdaaDoor
open Go Go.RowKit
namespace Oc
def size (c : Nat) : Int := if c = 98 then 1 else if c = 119 then 4 else if c = 113 then 8 else if c = 111 then 0 else if c = 116 then 0 else -1
def nsize (c : Nat) : Int := if c = 98 then 1 else if c = 119 then 4 else if c = 113 then 8 else 0
def most (c : Nat) : Int := if c = 98 then 255 else if c = 119 then 4294967295 else if c = 113 then 4611686018427387903 else 0
def mostOf (n : Int) : Int := if n = 8 then 4611686018427387903 else if n = 4 then 4294967295 else 255
def isL (c : UInt8) : Bool := decide (0 ≤ size c.toNat)
def known (l : List UInt8) : Bool := l.all isL
theorem known_take {s : ByteArray} {k : Nat} (h : k < s.size) (h1 : known (s.data.toList.take k) = true) (h2 : isL s[k] = true) : known (s.data.toList.take (k + 1)) = true := by
  rw [List.take_succ_eq_append_getElem (by simpa using h)]
  unfold known at h1 ⊢
  rw [List.all_append, h1, Bool.true_and, List.all_cons, List.all_nil, Bool.and_true]
  exact h2
theorem known_not {s : ByteArray} {k : Nat} (h : k < s.size) (h2 : isL s[k] = false) : known s.data.toList = false := by
  unfold known
  rw [List.all_eq_false]
  exact ⟨s[k], by simp [ByteArray.getElem_eq_getElem_data], by simp [h2]⟩
/-- n's bytes, the greatest first. -/
def num : Nat → Nat → List Nat
  | 0, _ => []
  | s + 1, n => num s (n / 256) ++ [n % 256]
theorem num_len : ∀ s n, (num s n).length = s
  | 0, _ => rfl
  | s + 1, n => by rw [num, List.length_append, num_len s]; rfl
end Oc
abbrev letS : ByteArray := ⟨#[98, 119, 113, 111, 116]⟩
theorem let_val : ∀ c : Fin 256, decide (Lib.indexByte letS.data.toList (((c.val : Nat) : Int).toNat.toUInt8) < 0) = decide (Oc.size c.val < 0) := by decide +kernel
theorem ret_i {a b : Int} (h : a = b) : Ending.returned (.int .i64 a) = .returned (.int .i64 b) := by rw [h]
theorem ret_b {a b : Bool} (h : a = b) : Ending.returned (.bool a) = .returned (.bool b) := by rw [h]
theorem ret_ii {a b x y : Int} (h : a = b ∧ x = y) : Ending.returned (.tuple #[.int .i64 a, .int .i64 x]) = .returned (.tuple #[.int .i64 b, .int .i64 y]) := by rw [h.1, h.2]
theorem size_any (c : Nat) (w : World) :
    Calls Tryd.prog 25 #[.int .u8 ((c : Nat) : Int)] w fun e w' => e = .returned (.int .i64 (Oc.size c)) ∧ w = w' := by
  have HF := Lib.hid (show Oc.size c = if c = 98 then 1 else if c = 119 then 4 else if c = 113 then 8 else if c = 111 then 0 else if c = 116 then 0 else -1 from rfl)
  rcases Nat.decEq c 98 with h1 | h1
  · rcases Nat.decEq c 119 with h2 | h2
    · rcases Nat.decEq c 113 with h3 | h3
      · rcases Nat.decEq c 111 with h4 | h4
        · rcases Nat.decEq c 116 with h5 | h5
          · have b4 : ((c : Int) == 111) = false := by simp; omega
            have b5 : ((c : Int) == 116) = false := by simp; omega
            have HV := Lib.hid (show Oc.size c = -1 by rw [HF.out, if_neg h1, if_neg h2, if_neg h3, if_neg h4, if_neg h5])
            go_enter Tryd.func25, Tryd.ntmps25
            go_wp2
            go_ret
            exact ⟨ret_i HV.out.symm, rfl⟩
          · subst h5
            go_enter Tryd.func25, Tryd.ntmps25
            go_wp2
            go_ret
            exact ⟨rfl, rfl⟩
        · subst h4
          go_enter Tryd.func25, Tryd.ntmps25
          go_wp2
          go_ret
          exact ⟨rfl, rfl⟩
      · subst h3
        go_enter Tryd.func25, Tryd.ntmps25
        go_wp2
        go_ret
        exact ⟨rfl, rfl⟩
    · subst h2
      go_enter Tryd.func25, Tryd.ntmps25
      go_wp2
      go_ret
      exact ⟨rfl, rfl⟩
  · subst h1
    go_enter Tryd.func25, Tryd.ntmps25
    go_wp2
    go_ret
    exact ⟨rfl, rfl⟩
theorem number_any (c : Nat) (w : World) :
    Calls Tryd.prog 44 #[.int .u8 ((c : Nat) : Int)] w fun e w' => e = .returned (.tuple #[.int .i64 (Oc.nsize c), .int .i64 (Oc.most c)]) ∧ w = w' := by
  rcases Nat.decEq c 98 with h1 | h1
  · rcases Nat.decEq c 119 with h2 | h2
    · rcases Nat.decEq c 113 with h3 | h3
      · have HV := Lib.hid (show Oc.nsize c = 0 ∧ Oc.most c = 0 from ⟨by unfold Oc.nsize; rw [if_neg h1, if_neg h2, if_neg h3], by unfold Oc.most; rw [if_neg h1, if_neg h2, if_neg h3]⟩)
        go_enter Tryd.func44, Tryd.ntmps44
        go_wp2
        go_ret2
        exact ⟨ret_ii ⟨HV.out.1.symm, HV.out.2.symm⟩, rfl⟩
      · subst h3
        go_enter Tryd.func44, Tryd.ntmps44
        go_wp2
        go_ret2
        exact ⟨rfl, rfl⟩
    · subst h2
      go_enter Tryd.func44, Tryd.ntmps44
      go_wp2
      go_ret2
      exact ⟨rfl, rfl⟩
  · subst h1
    go_enter Tryd.func44, Tryd.ntmps44
    go_wp2
    go_ret2
    exact ⟨rfl, rfl⟩
theorem most_any (n : Int) (w : World) :
    Calls Tryd.prog 26 #[.int .i64 n] w fun e w' => e = .returned (.int .i64 (Oc.mostOf n)) ∧ w = w' := by
  by_cases h1 : n = 8
  · subst h1
    go_enter Tryd.func26, Tryd.ntmps26
    go_wp2
    go_ret
    exact ⟨rfl, rfl⟩
  · by_cases h2 : n = 4
    · subst h2
      go_enter Tryd.func26, Tryd.ntmps26
      go_wp2
      go_ret
      exact ⟨rfl, rfl⟩
    · have HV := Lib.hid (show Oc.mostOf n = 255 by unfold Oc.mostOf; rw [if_neg h1, if_neg h2])
      go_enter Tryd.func26, Tryd.ntmps26
      go_wp2
      go_ret
      exact ⟨ret_i HV.out.symm, rfl⟩
theorem known_any (s : ByteArray) (w : World) (hs : s.size ≤ 1099511627776) :
    Calls Tryd.prog 21 #[.string s] w fun e w' => e = .returned (.bool (Oc.known s.data.toList)) ∧ w = w' := by
  go_enter Tryd.func21, Tryd.ntmps21
  go_wp2
  go_loopw [6] (fun i wr => ∃ k : Nat, k ≤ s.size ∧ i = .int .i64 k ∧ Hid (Oc.known (s.data.toList.take k) = true) ∧ wr = w) (fun i _ => s.size - (intOf i).toNat)
  case atStart => exact ⟨0, Nat.zero_le _, rfl, Lib.hid rfl, rfl⟩
  case round =>
    obtain ⟨k, hk, rfl, HK, rfl⟩ := hrel
    by_cases hlt : k < s.size
    · have hv : decide (Lib.indexByte letS.data.toList (((s[k].toNat : Nat) : Int).toNat.toUInt8) < 0) = decide (Oc.size s[k].toNat < 0) := let_val ⟨s[k].toNat, s[k].toNat_lt⟩
      have C1 : ∀ w, Calls Tryd.prog 43 #[.string letS, .int .u8 ((s[k].toNat : Nat) : Int)] w _ := fun w => Any.strings_IndexByte ixb_lays letS (s[k].toNat : Int) w
      generalize Lib.indexByte letS.data.toList (((s[k].toNat : Nat) : Int).toNat.toUInt8) = x at hv C1
      by_cases hx : x < 0
      · have H := Lib.hid (Oc.known_not hlt (by unfold Oc.isL; rw [decide_eq_true hx] at hv; have := of_decide_eq_true hv.symm; exact decide_eq_false (by omega)))
        clear hv
        go_wp2_with (go_at_call 43; refine (C1 _).mono ?_; rintro e w' ⟨rfl, rfl⟩)
        go_ret
        exact ⟨ret_b H.out.symm, rfl⟩
      · have H := Lib.hid (Oc.known_take hlt HK.out (by unfold Oc.isL; rw [decide_eq_false hx] at hv; have := of_decide_eq_false hv.symm; exact decide_eq_true (by omega)))
        clear hv
        go_wp2_with (go_at_call 43; refine (C1 _).mono ?_; rintro e w' ⟨rfl, rfl⟩)
        go_roundw
        case rel => exact ⟨k + 1, by omega, by go_num, H, (by first | rfl | trivial)⟩
        case measure => simp [intOf]; omega
    · have e : s.data.toList.take k = s.data.toList := List.take_of_length_le (by simp; omega)
      have H := Lib.hid (e ▸ HK.out)
      go_wp2
      go_ret
      exact ⟨ret_b H.out.symm, rfl⟩
end Go.Proofs.YtedlfafbehhkdaaDoor
