/- What the law over more roots needs beside the texts of the elder one: rows apart, rising rows, what is reached without an id. -/
import Derived.Test.YtlodalppnglclaaDoorMCl12s
namespace Go.Proofs.YtlodalppnglclaaDoor
open Go Go.RowKit
/-- Whichever of two comes up. -/
theorem all_two {P : Program} {md : Region.Mode} {ops : Array Oper} {Q : Exit → Act → World → Prop} {S : World → Prop} {i j : Nat} {oi oj : Oper} {fuel : Nat} {listed : Array Bool} {a : Act} {w : World}
    (hr : Region.ready md ops listed = [i, j]) (hi : ops[i]? = some oi) (hj : ops[j]? = some oj) (wi : Region.wanted oi (yielded ops a.tmps) = true) (wj : Region.wanted oj (yielded ops a.tmps) = true)
    (h1 : ∀ K : Act → World → Prop, (∀ a' w', S w' → wpAnyH P md ops Q S fuel (listed.setIfInBounds i true) a' w' → K a' w') → oi.wp P a w K Q)
    (h2 : ∀ K : Act → World → Prop, (∀ a' w', S w' → wpAnyH P md ops Q S fuel (listed.setIfInBounds j true) a' w' → K a' w') → oj.wp P a w K Q) : wpAnyH P md ops Q S (fuel + 1) listed a w := by
  refine wpAnyH_all hr (by simp) fun k hk => ?_
  rcases List.mem_cons.1 hk with rfl | hk
  · unfold wpOp
    simp only [hi, wi, if_true]
    exact Or.inl (h1 (fun a' w' => S w' ∧ wpAnyH P md ops Q S fuel (listed.setIfInBounds k true) a' w') fun _ _ hs hh => ⟨hs, hh⟩)
  · obtain rfl := List.mem_singleton.1 hk
    unfold wpOp
    simp only [hj, wj, if_true]
    exact Or.inl (h2 (fun a' w' => S w' ∧ wpAnyH P md ops Q S fuel (listed.setIfInBounds k true) a' w') fun _ _ hs hh => ⟨hs, hh⟩)
namespace Cl
/-- rising rows with the same ids are one -/
theorem rising_ext {r s : List (List Nat)} (hr : Sha.Rising r) (hs : Sha.Rising s) (h : ∀ x, x ∈ r ↔ x ∈ s) : r = s := by
  have hp : r.Perm s := (List.perm_ext_iff_of_nodup (rising_nodup hr) (rising_nodup hs)).2 h
  refine List.Perm.eq_of_pairwise (le := fun a b => Sha.cmpN a b < 0) (fun a b _ _ h1 h2 => ?_) (rising_pw.1 hr) (rising_pw.1 hs) hp
  have h3 := Sha.cmpN_anti a b
  omega
end Cl
namespace Cl
theorem rch_roots {l r s : List (List Nat)} {x : List Nat} (h : Rch l r x) (hs : ∀ y ∈ r, Rch l s y) : Rch l s x := by
  induction h with
  | root h => exact hs _ h
  | link _ k ih => exact Rch.link ih k
/-- without the objects of an id -/
noncomputable def less (l : List (List Nat)) (y : List Nat) : List (List Nat) := l.filter fun t => !decide (Sha.sum t = y)
theorem less_from {y z : List Nat} (hz : z ≠ y) : ∀ (l : List (List Nat)) (o : Option (List Nat)), (less l y).foldl (fun o t => if o.isSome then o else if z = Sha.sum t then some t else o) o = l.foldl (fun o t => if o.isSome then o else if z = Sha.sum t then some t else o) o
  | [], _ => rfl
  | t :: l, o => by
    rw [List.foldl_cons]
    unfold less
    by_cases ht : Sha.sum t = y
    · rw [List.filter_cons_of_neg (by simp [ht])]
      have h1 : ¬ z = Sha.sum t := fun e => hz (by rw [e, ht])
      have h2 : (if o.isSome = true then o else if z = Sha.sum t then some t else o) = o := by
        rw [if_neg h1]; split <;> rfl
      rw [h2]
      exact less_from hz l o
    · rw [List.filter_cons_of_pos (by simp [ht]), List.foldl_cons]
      exact less_from hz l _
theorem less_stk (y z : List Nat) (l : List (List Nat)) : stk (less l y) z = if z = y then none else stk l z := by
  by_cases hz : z = y
  · rw [if_pos hz]
    have h : (stk (less l y) z).isSome = false := by
      by_cases h : (stk (less l y) z).isSome = true
      · obtain ⟨t, ht, e⟩ := List.mem_map.1 (stk_iff.1 h)
        have h2 := (List.mem_filter.1 ht).2
        simp [e, hz] at h2
      · simpa using h
    simpa using h
  · rw [if_neg hz]
    exact less_from hz l none
theorem less_lks {l : List (List Nat)} {y z : List Nat} (h : z ≠ y) : lks (less l y) z = lks l z := by
  unfold lks obAt
  rw [less_stk, if_neg h]
theorem less_lks_y {l : List (List Nat)} {y : List Nat} : lks (less l y) y = [] := by
  unfold lks obAt
  rw [less_stk, if_pos rfl]
  rfl
theorem less_the {l : List (List Nat)} {y : List Nat} : the (less l y) y = false := by
  unfold the
  rw [less_stk, if_pos rfl]
  rfl
theorem less_rch {l r : List (List Nat)} {y x : List Nat} (h : Rch (less l y) r x) : Rch l r x := by
  induction h with
  | root h => exact Rch.root h
  | @link a b _ k ih =>
    by_cases ha : a = y
    · rw [ha, less_lks_y] at k; cases k
    · rw [less_lks ha] at k; exact Rch.link ih k
theorem rch_less {l r : List (List Nat)} {y x : List Nat} (h : Rch l r x) : Rch (less l y) r x ∨ Rch (less l y) r y := by
  induction h with
  | root h => exact Or.inl (Rch.root h)
  | @link a b _ k ih =>
    rcases ih with ih | ih
    · by_cases ha : a = y
      · exact Or.inr (ha ▸ ih)
      · exact Or.inl (Rch.link ih (by rw [less_lks ha]; exact k))
    · exact Or.inr ih
theorem less_iff {l r : List (List Nat)} {y : List Nat} : Rch (less l y) r y ↔ Rch l r y :=
  ⟨less_rch, fun h => by rcases rch_less (y := y) h with h | h <;> exact h⟩
end Cl
theorem rdk_rdo {w : World} {v : Value} {l : List (List Nat)} (h : RdO w v l) (hi : ∀ x ∈ l, Id32 x) : RdK w v l.length (cellsP l) := by
  obtain ⟨A, c, hv, hc, hA⟩ := h
  refine ⟨A, c, hv, hc, fun h0 => ?_⟩
  obtain ⟨b, o, ha, hl, hx⟩ := hA h0
  refine ⟨b, o, ha, hl, fun j u hu => ?_⟩
  have hlen := cellsP_length l hi
  have hj : j < l.length * 32 := by rw [← hlen]; exact (List.getElem?_eq_some_iff.1 hu).1
  have hi2 : j / 32 < l.length := by omega
  obtain ⟨u2, hu2⟩ : ∃ u2, (cellsB (l.getD (j / 32) []))[j % 32]? = some u2 := by
    have hm : l.getD (j / 32) [] ∈ l := by rw [List.getD_eq_getElem?_getD, List.getElem?_eq_getElem hi2]; exact List.getElem_mem hi2
    exact ⟨_, List.getElem?_eq_getElem (by rw [cellsP1_len (hi _ hm)]; omega)⟩
  have h1 := cellsP_at hi hi2 hu2
  rw [show j / 32 * 32 + j % 32 = j by omega, hu] at h1
  injection h1 with h1
  have h2 := hx (j / 32) hi2 (j % 32) u2 hu2
  rw [show o + 32 * (j / 32) + j % 32 = o + j by omega] at h2
  rw [h1]; exact h2
end Go.Proofs.YtlodalppnglclaaDoor
