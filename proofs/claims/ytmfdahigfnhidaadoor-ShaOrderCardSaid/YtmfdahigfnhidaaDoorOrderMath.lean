/- Plain mathematics: figures stand in the order of their digests, and first bytes do. -/
import Derived.Test.YtmfdahigfnhidaaDoorSortMath
import Derived.Test.YtmfdahigfnhidaaDoorBase
namespace Go.Proofs.YtmfdahigfnhidaaDoor
open Go
namespace Sha
def hexR : List Nat → List Nat
  | [] => []
  | a :: l => fig (a / 16) :: fig (a % 16) :: hexR l
theorem hex_cons (a : Nat) (r : List Nat) : hex (a :: r) = fig (a / 16) :: fig (a % 16) :: hex r := by
  apply List.ext_getElem (by simp [hex_len]; omega)
  intro i h1 h2
  rw [hex_len, List.length_cons] at h1
  have g : ∀ (l : List Nat) (h : i < l.length), l[i] = l.getD i 0 := fun l h => by simp [List.getD, h]
  rw [g, g]
  match i, h1 with
  | 0, _ => exact hex_even (a :: r) 0 (by simp)
  | 1, _ => exact hex_odd (a :: r) 0 (by simp)
  | i + 2, h1 =>
    simp only [List.getD_cons_succ]
    rcases Nat.mod_two_eq_zero_or_one i with e | e
    · obtain ⟨k, rfl⟩ : ∃ k, i = 2 * k := ⟨i / 2, by omega⟩
      rw [show 2 * k + 2 = 2 * (k + 1) by omega, hex_even _ _ (by simp; omega), hex_even _ _ (by omega)]; rfl
    · obtain ⟨k, rfl⟩ : ∃ k, i = 2 * k + 1 := ⟨i / 2, by omega⟩
      rw [show 2 * k + 1 + 2 = 2 * (k + 1) + 1 by omega, hex_odd _ _ (by simp; omega), hex_odd _ _ (by omega)]; rfl
theorem hex_nil : hex [] = [] := rfl
theorem fig_lt {x y : Nat} (hx : x < 16) (hy : y < 16) : fig x < fig y ↔ x < y := by unfold fig; split <;> split <;> omega
theorem fig_b (x : Nat) (hx : x < 16) : fig x < 256 := by unfold fig; split <;> omega
theorem fig_eq {x y : Nat} (hx : x < 16) (hy : y < 16) : fig x = fig y ↔ x = y := by unfold fig; split <;> split <;> omega
theorem bytesLess_nat (x y : Nat) (hx : x < 256) (hy : y < 256) (a b : List UInt8) : Op.bytesLess (UInt8.ofNat x :: a) (UInt8.ofNat y :: b) = (decide (x < y) || (decide (x = y) && Op.bytesLess a b)) := by
  rw [Op.bytesLess]
  have e1 : (UInt8.ofNat x < UInt8.ofNat y) ↔ x < y := by rw [UInt8.lt_iff_toNat_lt]; simp [Nat.mod_eq_of_lt hx, Nat.mod_eq_of_lt hy]
  have e2 : (UInt8.ofNat x = UInt8.ofNat y) ↔ x = y := by rw [← UInt8.toNat_inj]; simp [Nat.mod_eq_of_lt hx, Nat.mod_eq_of_lt hy]
  have e3 : (UInt8.ofNat x == UInt8.ofNat y) = decide (x = y) := by rw [Bool.eq_iff_iff, beq_iff_eq, decide_eq_true_iff]; exact e2
  rw [e3]
  simp only [e1]
theorem hex_less : ∀ (a b : List Nat), a.length = b.length → (∀ x ∈ a, x < 256) → (∀ x ∈ b, x < 256) → Op.bytesLess ((hex a).map UInt8.ofNat) ((hex b).map UInt8.ofNat) = lexLt a b
  | [], [], _, _, _ => rfl
  | [], _ :: _, h, _, _ => by simp at h
  | _ :: _, [], h, _, _ => by simp at h
  | x :: a, y :: b, h, ha, hb => by
    have ih := hex_less a b (by simpa using h) (fun z hz => ha z (List.mem_cons_of_mem _ hz)) (fun z hz => hb z (List.mem_cons_of_mem _ hz))
    have hx := ha x List.mem_cons_self
    have hy := hb y List.mem_cons_self
    rw [hex_cons, hex_cons, List.map_cons, List.map_cons, List.map_cons, List.map_cons,
      bytesLess_nat _ _ (fig_b _ (by omega)) (fig_b _ (by omega)), bytesLess_nat _ _ (fig_b _ (by omega)) (fig_b _ (by omega)), ih]
    have f1 : (fig (x / 16) < fig (y / 16)) ↔ x / 16 < y / 16 := fig_lt (by omega) (by omega)
    have f2 : (fig (x % 16) < fig (y % 16)) ↔ x % 16 < y % 16 := fig_lt (by omega) (by omega)
    have f3 : (fig (x / 16) = fig (y / 16)) ↔ x / 16 = y / 16 := fig_eq (by omega) (by omega)
    have f4 : (fig (x % 16) = fig (y % 16)) ↔ x % 16 = y % 16 := fig_eq (by omega) (by omega)
    simp only [f1, f2, f3, f4]
    unfold lexLt
    rw [cmpN]
    by_cases h1 : x < y
    · rw [if_pos h1]
      by_cases h2 : x / 16 < y / 16
      · simp [h2]
      · have h3 : x / 16 = y / 16 := by omega
        have h4 : x % 16 < y % 16 := by omega
        simp [h3, h4]
    · rw [if_neg h1]
      by_cases h2 : y < x
      · rw [if_pos h2]
        by_cases h3 : x / 16 = y / 16
        · have h4 : ¬ x % 16 < y % 16 := by omega
          have h5 : ¬ x % 16 = y % 16 := by omega
          simp [h3, h4, h5]
        · have h4 : ¬ x / 16 < y / 16 := by omega
          simp [h3, h4]
      · rw [if_neg h2]
        obtain rfl : x = y := by omega
        simp
theorem short_less {xs ys : List Nat} (hb : Byte xs) (hb' : Byte ys) : ∀ k, k ≤ xs.length → k ≤ ys.length →
    (xs.take k = ys.take k ∧ shortK xs k = shortK ys k) ∨ (shortK xs k ≠ shortK ys k ∧ lexLt xs ys = decide (shortK xs k < shortK ys k))
  | 0, _, _ => Or.inl ⟨rfl, rfl⟩
  | k + 1, h1, h2 => by
    have bx := hb k
    have by' := hb' k
    have s1 : shortK xs (k + 1) = shortK xs k * 256 + xs.getD k 0 := rfl
    have s2 : shortK ys (k + 1) = shortK ys k * 256 + ys.getD k 0 := rfl
    rcases short_less hb hb' k (by omega) (by omega) with ⟨e1, e2⟩ | ⟨e1, e2⟩
    · by_cases he : xs.getD k 0 = ys.getD k 0
      · refine Or.inl ⟨?_, by rw [s1, s2, e2, he]⟩
        rw [List.take_add_one, List.take_add_one, e1]
        congr 1
        rw [List.getElem?_eq_getElem (by omega), List.getElem?_eq_getElem (by omega)]
        simp only [List.getD, List.getElem?_eq_getElem (show k < xs.length by omega), List.getElem?_eq_getElem (show k < ys.length by omega), Option.getD_some] at he
        rw [he]
      · have hl := cmpN_at k xs ys e1 (by omega) (by omega) he
        refine Or.inr ⟨by omega, ?_⟩
        rw [hl]
        exact decide_eq_decide.2 (by omega)
    · refine Or.inr ⟨by omega, ?_⟩
      rw [e2]
      exact decide_eq_decide.2 (by omega)
end Sha
theorem textOf_toList (l : List Nat) : (textOf l).toList = l.map UInt8.ofNat := by
  rw [ByteArray.toList_eq]; simp [textOf]
end Go.Proofs.YtmfdahigfnhidaaDoor
