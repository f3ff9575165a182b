/- The walks of layer 3's tests on bytes: letters and figures, closures that tell which bytes a name may have, and whether a text has only such bytes. -/
import Derived.Test.YtnjhipecpdcaoaaDoorBase
import Derived.Test.YtnjhipecpdcaoaaDoorNmMath
import Derived.Test.YtnjhipecpdcaoaaDoorNmLays
import Derived.ChangeAlike
import Derived.WalkSpells
import Derived.Laws.EntriesVeiled
namespace Go.Proofs.YtnjhipecpdcaoaaDoor
open Go Go.RowKit
theorem ret_bool {a b : Bool} (h : a = b) : Ending.returned (.bool a) = .returned (.bool b) := by rw [h]
def encU (c : UInt8) : Value := .int .u8 (c.toNat : Int)
theorem lettr_yes {c : UInt8} (h1 : 97 ≤ (c.toNat : Int)) (h2 : (c.toNat : Int) ≤ 122) : Nm.lettr c = true := by unfold Nm.lettr; rw [decide_eq_true h1, decide_eq_true h2]; rfl
theorem lettr_low {c : UInt8} (h1 : ¬ 97 ≤ (c.toNat : Int)) : Nm.lettr c = false := by unfold Nm.lettr; rw [decide_eq_false h1]; rfl
theorem lettr_high {c : UInt8} (h2 : ¬ (c.toNat : Int) ≤ 122) : Nm.lettr c = false := by unfold Nm.lettr; rw [decide_eq_false h2, Bool.and_false]
theorem figr_yes {c : UInt8} (h1 : 48 ≤ (c.toNat : Int)) (h2 : (c.toNat : Int) ≤ 57) : Nm.figr c = true := by unfold Nm.figr; rw [decide_eq_true h1, decide_eq_true h2]; rfl
theorem figr_low {c : UInt8} (h1 : ¬ 48 ≤ (c.toNat : Int)) : Nm.figr c = false := by unfold Nm.figr; rw [decide_eq_false h1]; rfl
theorem figr_high {c : UInt8} (h2 : ¬ (c.toNat : Int) ≤ 57) : Nm.figr c = false := by unfold Nm.figr; rw [decide_eq_false h2, Bool.and_false]
theorem letter_any (c : UInt8) (w : World) :
    Calls Tryd.prog 22 #[.int .u8 (c.toNat : Int)] w fun e w' => e = .returned (.bool (Nm.lettr c)) ∧ w = w' := by
  by_cases h1 : 97 ≤ (c.toNat : Int)
  · by_cases h2 : (c.toNat : Int) ≤ 122
    · have H := Lib.hid (lettr_yes h1 h2)
      go_enter Tryd.func22, Tryd.ntmps22
      go_wp2
      go_ret
      exact ⟨ret_bool H.out.symm, rfl⟩
    · have H := Lib.hid (lettr_high h2)
      go_enter Tryd.func22, Tryd.ntmps22
      go_wp2
      go_ret
      exact ⟨ret_bool H.out.symm, rfl⟩
  · have H := Lib.hid (lettr_low h1)
    go_enter Tryd.func22, Tryd.ntmps22
    go_wp2
    go_ret
    exact ⟨ret_bool H.out.symm, rfl⟩
theorem figure_any (c : UInt8) (w : World) :
    Calls Tryd.prog 38 #[.int .u8 (c.toNat : Int)] w fun e w' => e = .returned (.bool (Nm.figr c)) ∧ w = w' := by
  by_cases h1 : 48 ≤ (c.toNat : Int)
  · by_cases h2 : (c.toNat : Int) ≤ 57
    · have H := Lib.hid (figr_yes h1 h2)
      go_enter Tryd.func38, Tryd.ntmps38
      go_wp2
      go_ret
      exact ⟨ret_bool H.out.symm, rfl⟩
    · have H := Lib.hid (figr_high h2)
      go_enter Tryd.func38, Tryd.ntmps38
      go_wp2
      go_ret
      exact ⟨ret_bool H.out.symm, rfl⟩
  · have H := Lib.hid (figr_low h1)
    go_enter Tryd.func38, Tryd.ntmps38
    go_wp2
    go_ret
    exact ⟨ret_bool H.out.symm, rfl⟩
theorem rletter_any (c : UInt8) (w : World) :
    Calls Tryd.prog 26 #[.int .u8 (c.toNat : Int)] w fun e w' => e = .returned (.bool (Nm.lettr c)) ∧ w = w' := by
  by_cases h1 : 97 ≤ (c.toNat : Int)
  · by_cases h2 : (c.toNat : Int) ≤ 122
    · have H := Lib.hid (lettr_yes h1 h2)
      go_enter Tryd.func26, Tryd.ntmps26
      go_wp2
      go_ret
      exact ⟨ret_bool H.out.symm, rfl⟩
    · have H := Lib.hid (lettr_high h2)
      go_enter Tryd.func26, Tryd.ntmps26
      go_wp2
      go_ret
      exact ⟨ret_bool H.out.symm, rfl⟩
  · have H := Lib.hid (lettr_low h1)
    go_enter Tryd.func26, Tryd.ntmps26
    go_wp2
    go_ret
    exact ⟨ret_bool H.out.symm, rfl⟩
theorem rdigit_any (c : UInt8) (w : World) :
    Calls Tryd.prog 27 #[.int .u8 (c.toNat : Int)] w fun e w' => e = .returned (.bool (Nm.figr c)) ∧ w = w' := by
  by_cases h1 : 48 ≤ (c.toNat : Int)
  · by_cases h2 : (c.toNat : Int) ≤ 57
    · have H := Lib.hid (figr_yes h1 h2)
      go_enter Tryd.func27, Tryd.ntmps27
      go_wp2
      go_ret
      exact ⟨ret_bool H.out.symm, rfl⟩
    · have H := Lib.hid (figr_high h2)
      go_enter Tryd.func27, Tryd.ntmps27
      go_wp2
      go_ret
      exact ⟨ret_bool H.out.symm, rfl⟩
  · have H := Lib.hid (figr_low h1)
    go_enter Tryd.func27, Tryd.ntmps27
    go_wp2
    go_ret
    exact ⟨ret_bool H.out.symm, rfl⟩
/-! closures -/
theorem oneOf_any (bytes : ByteArray) (w : World) :
    Calls Tryd.prog 36 #[.string bytes] w fun e w' => e = .returned (.func (.func 48) #[] #[.pointer (some ⟨w.heap.size, 0, none⟩)]) ∧ w.alloc (.cells #[.string bytes] 9) = w' := by
  go_enter Tryd.func36, Tryd.ntmps36
  go_wp2
  go_ret
  exact ⟨rfl, rfl⟩
theorem oneOf1_any (c : UInt8) (bytes : ByteArray) (B : Nat) (w : World) (hc : w.cell? ⟨B, 0, none⟩ = some (.string bytes)) :
    Calls Tryd.prog 48 #[.int .u8 (c.toNat : Int), .pointer (some ⟨B, 0, none⟩)] w fun e w' => e = .returned (.bool (Nm.among bytes.data.toList c)) ∧ w = w' := by
  go_enter Tryd.func48, Tryd.ntmps48
  go_wp2_with (go_at_call 49; refine (Any.strings_IndexByte ixb_lays bytes (c.toNat : Int) _).mono ?_; rintro e w' ⟨rfl, rfl⟩)
  go_ret
  exact ⟨ret_bool rfl, rfl⟩
theorem plainOr_any (more : ByteArray) (w : World) :
    Calls Tryd.prog 24 #[.string more] w fun e w' => e = .returned (.func (.func 37) #[] #[.pointer (some ⟨w.heap.size + 1, 0, none⟩)]) ∧
      (w.alloc (.cells #[.string more] 9)).alloc (.cells #[.func (.func 48) #[] #[.pointer (some ⟨w.heap.size, 0, none⟩)]] 34) = w' := by
  go_enter Tryd.func24, Tryd.ntmps24
  go_wp2_with (go_at_call 36; refine (oneOf_any more _).mono ?_; rintro e w' ⟨rfl, rfl⟩)

  go_ret
  exact ⟨by simp, rfl⟩
theorem plainOr1_any (c : UInt8) (more : ByteArray) (B B' : Nat) (w : World) (h1 : w.cell? ⟨B, 0, none⟩ = some (.func (.func 48) #[] #[.pointer (some ⟨B', 0, none⟩)])) (h2 : w.cell? ⟨B', 0, none⟩ = some (.string more)) :
    Calls Tryd.prog 37 #[.int .u8 (c.toNat : Int), .pointer (some ⟨B, 0, none⟩)] w fun e w' => e = .returned (.bool (Nm.plain more.data.toList c)) ∧ w = w' := by
  cases hl : Nm.lettr c
  · cases hf : Nm.figr c
    · have H := Lib.hid (show Nm.plain more.data.toList c = Nm.among more.data.toList c by simp [Nm.plain, hl, hf])
      have C1 := hl ▸ letter_any c
      have C2 := hf ▸ figure_any c
      clear hl hf
      go_enter Tryd.func37, Tryd.ntmps37
      go_wp2_with (first
        | (go_at_call 22; refine (C1 _).mono ?_; rintro e w' ⟨rfl, rfl⟩)
        | (go_at_call 38; refine (C2 _).mono ?_; rintro e w' ⟨rfl, rfl⟩)
        | (go_at_call 48; refine (oneOf1_any c more B' _ h2).mono ?_; rintro e w' ⟨rfl, rfl⟩))
      go_ret
      exact ⟨ret_bool H.out.symm, rfl⟩
    · have H := Lib.hid (show Nm.plain more.data.toList c = true by simp [Nm.plain, hl, hf])
      have C1 := hl ▸ letter_any c
      have C2 := hf ▸ figure_any c
      clear hl hf
      go_enter Tryd.func37, Tryd.ntmps37
      go_wp2_with (first
        | (go_at_call 22; refine (C1 _).mono ?_; rintro e w' ⟨rfl, rfl⟩)
        | (go_at_call 38; refine (C2 _).mono ?_; rintro e w' ⟨rfl, rfl⟩))
      go_ret
      exact ⟨ret_bool H.out.symm, rfl⟩
  · have H := Lib.hid (show Nm.plain more.data.toList c = true by simp [Nm.plain, hl])
    have C1 := hl ▸ letter_any c
    clear hl
    go_enter Tryd.func37, Tryd.ntmps37
    go_wp2_with (first
      | (go_at_call 22; refine (C1 _).mono ?_; rintro e w' ⟨rfl, rfl⟩))
    go_ret
    exact ⟨ret_bool H.out.symm, rfl⟩
/-- What a test on bytes is to a text's walk: it answers, and leaves the world alone. -/
def Tells (g : Nat) (lb : Array Value) (p : UInt8 → Bool) (w : World) : Prop :=
  ∀ (W : World) (c : UInt8), Below w.heap.size w W → Calls Tryd.prog g (#[.int .u8 (c.toNat : Int)] ++ lb) W fun e w' => e = .returned (.bool (p c)) ∧ W = w'
theorem plainOr_tells (more : ByteArray) (B B' : Nat) (w : World) (hB : B < w.heap.size) (hB' : B' < w.heap.size) (h1 : w.cell? ⟨B, 0, none⟩ = some (.func (.func 48) #[] #[.pointer (some ⟨B', 0, none⟩)])) (h2 : w.cell? ⟨B', 0, none⟩ = some (.string more)) :
    Tells 37 #[.pointer (some ⟨B, 0, none⟩)] (Nm.plain more.data.toList) w :=
  fun W c hb => plainOr1_any c more B B' W ((hb.cell (p := ⟨B, 0, none⟩) hB).trans h1) ((hb.cell (p := ⟨B', 0, none⟩) hB').trans h2)
theorem oneOf_tells (bytes : ByteArray) (B : Nat) (w : World) (hB : B < w.heap.size) (h1 : w.cell? ⟨B, 0, none⟩ = some (.string bytes)) :
    Tells 48 #[.pointer (some ⟨B, 0, none⟩)] (Nm.among bytes.data.toList) w :=
  fun W c hb => oneOf1_any c bytes B W ((hb.cell (p := ⟨B, 0, none⟩) hB).trans h1)
theorem all_take {s : ByteArray} {p : UInt8 → Bool} {k : Nat} (h : k < s.size) : (s.data.toList.take (k + 1)).all p = ((s.data.toList.take k).all p && p s[k]) := by
  have e : s.data.toList.take (k + 1) = s.data.toList.take k ++ [s[k]] := by rw [List.take_succ_eq_append_getElem (by simpa using h)]; rfl
  rw [e, List.all_append]; simp
theorem all_hit {s : ByteArray} {p : UInt8 → Bool} {k : Nat} (h : k < s.size) (hp : p s[k] = false) : s.data.toList.all p = false := by
  rw [List.all_eq_false]
  exact ⟨s[k], by rw [show s[k] = s.data.toList[k]'(by simpa using h) from rfl]; exact List.getElem_mem _, by simp [hp]⟩
set_option maxHeartbeats 400000 in
theorem all_any (s : ByteArray) (g : Nat) (lb : Array Value) (p : UInt8 → Bool) (eg : ∀ args w, (callFunc g args).run Tryd.prog w = .ok (.enter g args) w) (w : World) (hs : s.size ≤ maxLen) (hp : Tells g lb p w) :
    Calls Tryd.prog 23 #[.string s, .func (.func g) #[] lb] w fun e w' => e = .returned (.bool (Nm.allL p s.data.toList)) ∧ w = w' := by
  unfold maxLen at hs
  have hb := Below.refl w.heap.size w
  go_enter Tryd.func23, Tryd.ntmps23
  go_wp2
  go_loop [8] (fun i => ∃ k : Nat, k ≤ s.size ∧ i = .int .i64 k ∧ (s.data.toList.take k).all p = true) (fun i => s.size - (intOf i).toNat)
  case atStart => exact ⟨0, Nat.zero_le _, rfl, rfl⟩
  case round =>
    obtain ⟨k, hk, rfl, ha⟩ := hrel
    have HA := Lib.hid ha
    clear ha
    by_cases hlt : k < s.size
    · cases hv : p s[k]
      · have H := Lib.hid ((show Nm.allL p s.data.toList = false from all_hit hlt hv))
        have C := hv ▸ hp w s[k] hb
        clear hv
        go_wp2_with (go_at_fn g; refine C.mono ?_; rintro e w' ⟨rfl, rfl⟩)
        go_ret
        exact ⟨ret_bool H.out.symm, rfl⟩
      · have H := Lib.hid (show (s.data.toList.take (k + 1)).all p = true by rw [all_take hlt, HA.out, hv]; rfl)
        have C := hv ▸ hp w s[k] hb
        clear hv
        go_wp2_with (go_at_fn g; refine C.mono ?_; rintro e w' ⟨rfl, rfl⟩)
        go_round
        case rel => exact ⟨k + 1, by omega, by go_num, H.out⟩
        case measure => simp [intOf]; omega
    · have H := Lib.hid (show Nm.allL p s.data.toList = true by unfold Nm.allL; rw [← HA.out, List.take_of_length_le (by simp; omega)])
      go_wp2
      go_ret
      exact ⟨ret_bool H.out.symm, rfl⟩
end Go.Proofs.YtnjhipecpdcaoaaDoor
