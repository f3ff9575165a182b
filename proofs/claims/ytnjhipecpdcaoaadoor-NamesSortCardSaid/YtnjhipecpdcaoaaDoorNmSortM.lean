/- The mathematics of NamesSort: what is sorted and then compacted rises, and has just what was given. -/
import Derived.Lib.SlicesCompact
import Derived.Sort.Walk0
namespace Go.Proofs.YtnjhipecpdcaoaaDoor.Nm
open Go Go.Lib
abbrev T := List UInt8
def le (x y : T) : Bool := decide (x ≤ y)
theorem le_tr (a b c : T) (h1 : le a b = true) (h2 : le b c = true) : le a c = true := by
  unfold le at *; rw [decide_eq_true_eq] at *; exact List.le_trans h1 h2
theorem le_to (a b : T) : (le a b || le b a) = true := by
  unfold le; rw [Bool.or_eq_true, decide_eq_true_eq, decide_eq_true_eq]; exact List.le_total a b
theorem lt_of {a b : T} (h : a ≤ b) (hn : ¬ b = a) : a < b := by
  rcases Decidable.em (a < b) with h1 | h1
  · exact h1
  · exact absurd (List.le_antisymm h (List.not_lt.1 h1)).symm hn
def srt (l : List T) : List T := l.mergeSort fun x y => decide (x ≤ y)
theorem srt_pair (l : List T) : (srt l).Pairwise fun a b => a ≤ b := by
  have h := List.pairwise_mergeSort (le := le) le_tr le_to l
  exact h.imp fun {a b} hab => by unfold le at hab; exact of_decide_eq_true hab
theorem srt_mem (l : List T) (x : T) : x ∈ srt l ↔ x ∈ l := (List.mergeSort_perm l _).mem_iff
theorem srt_len (l : List T) : (srt l).length = l.length := (List.mergeSort_perm l _).length_eq
/-- the first m places of a sorted list, compacted -/
theorem comp_inv (l : List T) (hs : l.Pairwise fun a b => a ≤ b) : ∀ m, m ≤ l.length →
    (∀ x, x ∈ compactUpTo l.toArray m ↔ ∃ j, j < m ∧ l[j]? = some x) ∧ (compactUpTo l.toArray m).Pairwise fun a b => a < b
  | 0, _ => by simp [compactUpTo]
  | m + 1, hm => by
    obtain ⟨ih1, ih2⟩ := comp_inv l hs m (by omega)
    have hx : l[m]? = some l[m] := by simp [show m < l.length by omega]
    have hd : l.toArray[m]! = l[m] := by simp [getElem!_pos, show m < l.length by omega]
    rw [compactUpTo_succ, hd]
    by_cases hk : keeps l.toArray m = true
    · rw [if_pos hk]
      refine ⟨fun x => ?_, ?_⟩
      · rw [List.mem_append, ih1 x, List.mem_singleton]
        constructor
        · rintro (⟨j, hj, e⟩ | rfl)
          · exact ⟨j, by omega, e⟩
          · exact ⟨m, by omega, hx⟩
        · rintro ⟨j, hj, e⟩
          rcases Nat.lt_succ_iff_lt_or_eq.1 hj with h | rfl
          · exact .inl ⟨j, h, e⟩
          · rw [hx] at e; exact .inr (Option.some.inj e).symm
      · rw [List.pairwise_append]
        refine ⟨ih2, List.pairwise_singleton _ _, fun a ha b hb => ?_⟩
        obtain rfl := List.mem_singleton.1 hb
        obtain ⟨j, hj, e⟩ := (ih1 a).1 ha
        obtain ⟨hj2, rfl⟩ := List.getElem?_eq_some_iff.1 e
        have hne : ¬ l[m] = l[m - 1] := by
          unfold keeps at hk
          rw [decide_eq_true_eq, hd, show l.toArray[m - 1]! = l[m - 1] by simp [getElem!_pos, show m - 1 < l.length by omega]] at hk
          exact hk.resolve_left (by omega)
        have h1 : l[m - 1] ≤ l[m] := List.pairwise_iff_getElem.1 hs (m - 1) m (by omega) (by omega) (by omega)
        have h2 := lt_of h1 hne
        rcases Nat.lt_or_ge j (m - 1) with h | h
        · exact List.lt_of_le_of_lt (List.pairwise_iff_getElem.1 hs j (m - 1) (by omega) (by omega) h) h2
        · obtain rfl : j = m - 1 := by omega
          exact h2
    · rw [if_neg hk, List.append_nil]
      refine ⟨fun x => ?_, ih2⟩
      rw [ih1 x]
      constructor
      · rintro ⟨j, hj, e⟩; exact ⟨j, by omega, e⟩
      · rintro ⟨j, hj, e⟩
        rcases Nat.lt_succ_iff_lt_or_eq.1 hj with h | rfl
        · exact ⟨j, h, e⟩
        · have h0 : ¬ j = 0 := by
            intro h0; subst h0; exact hk (by simp [keeps])
          have he : l[j] = l[j - 1] := by
            by_cases hh : l[j] = l[j - 1]
            · exact hh
            · refine absurd ?_ hk
              unfold keeps
              rw [decide_eq_true_eq, hd, show l.toArray[j - 1]! = l[j - 1] by simp [getElem!_pos, show j - 1 < l.length by omega]]
              exact .inr hh
          rw [hx, he] at e
          exact ⟨j - 1, by omega, by rw [← e]; simp [show j - 1 < l.length by omega]⟩
/-- texts rising, each once -/
def once (l : List T) : List T := compact (srt l)
theorem once_mem (l : List T) (x : T) : x ∈ once l ↔ x ∈ l := by
  have h := (comp_inv (srt l) (srt_pair l) (srt l).length (Nat.le_refl _)).1 x
  unfold once compact
  rw [h, ← srt_mem l x, List.mem_iff_getElem?]
  constructor
  · rintro ⟨j, _, e⟩; exact ⟨j, e⟩
  · rintro ⟨j, e⟩; exact ⟨j, (List.getElem?_eq_some_iff.1 e).1, e⟩
theorem once_rise (l : List T) {i : Nat} (h : i + 1 < (once l).length) : (once l)[i] < (once l)[i + 1] := by
  have hp := (comp_inv (srt l) (srt_pair l) (srt l).length (Nat.le_refl _)).2
  exact List.pairwise_iff_getElem.1 hp i (i + 1) (Nat.lt_of_succ_lt h) h (Nat.lt_succ_self i)
theorem once_len (l : List T) : (once l).length ≤ l.length := by
  have h : ∀ m, (compactUpTo (srt l).toArray m).length ≤ m := by
    intro m
    unfold compactUpTo
    rw [List.length_map]
    exact Nat.le_trans (List.length_filter_le _ _) (by simp)
  have := h (srt l).length
  rw [srt_len] at this
  unfold once compact
  rw [srt_len]
  exact this
end Go.Proofs.YtnjhipecpdcaoaaDoor.Nm
