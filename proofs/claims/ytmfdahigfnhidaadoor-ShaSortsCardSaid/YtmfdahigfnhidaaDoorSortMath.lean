/- Plain mathematics of lists of digests: neighbours that are the same told once, what rises. Nothing of the program. -/
import Derived.Test.YtmfdahigfnhidaaDoorTextMath
namespace Go.Proofs.YtmfdahigfnhidaaDoor
namespace Sha
/-- the first k of l, each run told once -/
def compK (l : List (List Nat)) : Nat → List (List Nat)
  | 0 => []
  | k + 1 => if 0 < k ∧ l.getD k [] = l.getD (k - 1) [] then compK l k else compK l k ++ [l.getD k []]
theorem compK_len (l : List (List Nat)) : ∀ k, (compK l k).length ≤ k
  | 0 => by simp [compK]
  | k + 1 => by
    have := compK_len l k
    unfold compK; split
    · omega
    · simp; omega
theorem compK_one (l : List (List Nat)) : compK l 1 = [l.getD 0 []] := by simp [compK]
theorem compK_pos (l : List (List Nat)) : ∀ k, 0 < k → 0 < (compK l k).length
  | k + 1, _ => by
    unfold compK; split
    · next h => exact compK_pos l k h.1
    · simp
theorem take_snoc_getD {l : List (List Nat)} {k : Nat} (h : k < l.length) : l.take (k + 1) = l.take k ++ [l.getD k []] := by
  rw [List.take_add_one]; simp [List.getD, h]
theorem compK_take (l : List (List Nat)) : ∀ k, k ≤ l.length → (∀ i, 0 < i → i < k → l.getD i [] ≠ l.getD (i - 1) []) → compK l k = l.take k
  | 0, _, _ => by simp [compK]
  | k + 1, h, hn => by
    have ih := compK_take l k (by omega) (fun i h1 h2 => hn i h1 (by omega))
    unfold compK
    rw [if_neg (fun e => hn k e.1 (by omega) e.2), ih, take_snoc_getD (by omega)]
theorem compK_last (l : List (List Nat)) : ∀ k, 0 < k → ∃ r, compK l k = r ++ [l.getD (k - 1) []]
  | k + 1, _ => by
    unfold compK; split
    · next h =>
      obtain ⟨r, hr⟩ := compK_last l k h.1
      exact ⟨r, by rw [hr, ← h.2]; simp⟩
    · exact ⟨compK l k, by simp⟩
theorem compK_mem (l : List (List Nat)) : ∀ k, k ≤ l.length → ∀ x, x ∈ compK l k ↔ x ∈ l.take k
  | 0, _, x => by simp [compK]
  | k + 1, h, x => by
    have ih := compK_mem l k (by omega) x
    rw [take_snoc_getD (by omega)]
    unfold compK; split
    · next hh =>
      rw [ih, List.mem_append, List.mem_singleton]
      constructor
      · exact Or.inl
      · rintro (h1 | rfl)
        · exact h1
        · rw [hh.2]
          have : l.getD (k - 1) [] = (l.take k)[k - 1]'(by simp; omega) := by
            rw [List.getElem_take]; simp [List.getD, show k - 1 < l.length by omega]
          rw [this]; exact List.getElem_mem _
    · rw [List.mem_append, List.mem_append, ih]
theorem compK_short (l : List (List Nat)) (k : Nat) (hk : 0 < k) (he : l.getD k [] = l.getD (k - 1) []) : ∀ j, 0 < j → (compK l (k + j)).length + 1 ≤ k + j
  | j + 1, _ => by
    rcases Nat.eq_zero_or_pos j with rfl | hj
    · have := compK_len l k
      show (compK l (k + 1)).length + 1 ≤ k + 1
      unfold compK; rw [if_pos ⟨hk, he⟩]; omega
    · have ih := compK_short l k hk he j hj
      show (compK l (k + j + 1)).length + 1 ≤ k + j + 1
      unfold compK; split
      · omega
      · simp; omega
theorem compK_same (l : List (List Nat)) (k : Nat) (hk : 0 < k) (he : l.getD k [] = l.getD (k - 1) []) : compK l (k + 1) = compK l k := by
  rw [compK, if_pos ⟨hk, he⟩]
theorem compK_next (l : List (List Nat)) (k : Nat) (he : l.getD k [] ≠ l.getD (k - 1) []) : compK l (k + 1) = compK l k ++ [l.getD k []] := by
  rw [compK, if_neg (fun h => he h.2)]
/-- what stands in memory behind k of them -/
def contK (l : List (List Nat)) (k : Nat) : List (List Nat) := compK l k ++ l.drop (compK l k).length
theorem contK_len (l : List (List Nat)) (k : Nat) (h : k ≤ l.length) : (contK l k).length = l.length := by
  have := compK_len l k
  simp [contK]; omega
theorem contK_old (l : List (List Nat)) (k i : Nat) (h : (compK l k).length ≤ i) : (contK l k).getD i [] = l.getD i [] := by
  simp [contK, List.getD, List.getElem?_append_right h]
  congr 2; omega
theorem contK_new (l : List (List Nat)) (k i : Nat) (h : i < (compK l k).length) : (contK l k).getD i [] = (compK l k).getD i [] := by
  simp [contK, List.getD, List.getElem?_append_left h]
theorem contK_set (l : List (List Nat)) (k : Nat) (h : k < l.length) (hs : (compK l k).length < l.length) (he : l.getD k [] ≠ l.getD (k - 1) []) : (contK l k).set (compK l k).length (l.getD k []) = contK l (k + 1) := by
  unfold contK
  rw [compK_next l k he, List.set_append_right _ _ (Nat.le_refl _), Nat.sub_self, List.length_append, List.length_singleton]
  obtain ⟨a, r, hr⟩ : ∃ a r, l.drop (compK l k).length = a :: r := by
    cases hd : l.drop (compK l k).length with
    | nil => rw [List.drop_eq_nil_iff] at hd; omega
    | cons a r => exact ⟨a, r, rfl⟩
  have hr2 : l.drop ((compK l k).length + 1) = r := by
    rw [← List.drop_drop, hr]; rfl
  rw [hr, hr2]; simp
theorem contK_oids {l : List (List Nat)} (hl : ∀ o ∈ l, o.length = 32 ∧ Byte o) (k : Nat) (h : k ≤ l.length) : ∀ o ∈ contK l k, o.length = 32 ∧ Byte o := fun o ho => by
  rcases List.mem_append.1 ho with h1 | h1
  · exact hl o (List.mem_of_mem_take ((compK_mem l k h o).1 h1))
  · exact hl o (List.mem_of_mem_drop h1)
/-- no later one is ahead of an earlier one -/
def Asc (l : List (List Nat)) : Prop := ∀ i j, i < j → j < l.length → ¬ cmpN (l.getD j []) (l.getD i []) < 0
/-- each is ahead of all later ones -/
def Rising (l : List (List Nat)) : Prop := ∀ i j, i < j → j < l.length → cmpN (l.getD i []) (l.getD j []) < 0
theorem lt_of_le_ne {a b : List Nat} (h : ¬ cmpN b a < 0) (hne : a ≠ b) : cmpN a b < 0 := by
  have h1 := cmpN_anti a b
  rcases cmpN_cases a b with e | e | e
  · omega
  · exact absurd (cmpN_zero a b e) hne
  · omega
theorem getD_append_l {l r : List (List Nat)} {i : Nat} (h : i < l.length) : (l ++ r).getD i [] = l.getD i [] := by simp [List.getD, List.getElem?_append_left h]
theorem getD_append_at {l : List (List Nat)} {x : List Nat} : (l ++ [x]).getD l.length [] = x := by simp [List.getD]
theorem compK_rising (l : List (List Nat)) (ha : Asc l) : ∀ k, k ≤ l.length → Rising (compK l k)
  | 0, _ => fun i j _ h => by simp [compK] at h
  | k + 1, hk => by
    have ih := compK_rising l ha k (by omega)
    unfold compK; split
    · exact ih
    · next hn =>
      intro i j hij hj
      rw [List.length_append, List.length_singleton] at hj
      by_cases hjl : j < (compK l k).length
      · rw [getD_append_l hjl, getD_append_l (by omega)]; exact ih i j hij hjl
      · obtain rfl : j = (compK l k).length := by omega
        rw [getD_append_at, getD_append_l hij]
        have hk0 : 0 < k := by have := compK_len l k; omega
        obtain ⟨r, hr⟩ := compK_last l k hk0
        have hlast : cmpN (l.getD (k - 1) []) (l.getD k []) < 0 := lt_of_le_ne (ha (k - 1) k (by omega) (by omega)) (fun e => hn ⟨hk0, e.symm⟩)
        have hlen : (compK l k).length = r.length + 1 := by rw [hr]; simp
        by_cases hi : i = r.length
        · subst hi; rw [hr, getD_append_at]; exact hlast
        · have h1 := ih i r.length (by omega) (by omega)
          have e : (compK l k).getD r.length [] = l.getD (k - 1) [] := by rw [hr, getD_append_at]
          rw [e] at h1
          exact cmpN_trans _ _ _ h1 hlast
/-- all are digests -/
def Oids (l : List (List Nat)) : Prop := ∀ o ∈ l, o.length = 32 ∧ Byte o
theorem Oids.getD {l : List (List Nat)} (h : Oids l) {i : Nat} (hi : i < l.length) : (l.getD i []).length = 32 ∧ Byte (l.getD i []) := by
  have e : l.getD i [] = l[i] := by simp [List.getD, hi]
  rw [e]; exact h _ (List.getElem_mem _)
theorem flat_len {l : List (List Nat)} (h : Oids l) : l.flatten.length = 32 * l.length := by
  induction l with
  | nil => rfl
  | cons a l ih =>
    rw [List.flatten_cons, List.length_append, (h a List.mem_cons_self).1, ih (fun o ho => h o (List.mem_cons_of_mem _ ho)), List.length_cons]; omega
theorem flat_getD : ∀ {l : List (List Nat)}, Oids l → ∀ {i j : Nat}, i < l.length → j < 32 → l.flatten.getD (32 * i + j) 0 = (l.getD i []).getD j 0
  | [], _, i, j, hi, _ => by simp at hi
  | a :: l, h, 0, j, _, hj => by
    rw [List.flatten_cons, Nat.mul_zero, Nat.zero_add, getD_append_lt (by rw [(h a List.mem_cons_self).1]; exact hj)]
    rfl
  | a :: l, h, i + 1, j, hi, hj => by
    have ih := flat_getD (l := l) (fun o ho => h o (List.mem_cons_of_mem _ ho)) (i := i) (by simpa using hi) hj
    have e := (h a List.mem_cons_self).1
    rw [List.flatten_cons, getD_append_ge (by omega), e, show 32 * (i + 1) + j - 32 = 32 * i + j by omega, ih]
    rfl
theorem flat_byte {l : List (List Nat)} (h : Oids l) : Byte l.flatten := fun t => by
  rcases Nat.lt_or_ge t (32 * l.length) with ht | ht
  · have := flat_getD h (i := t / 32) (j := t % 32) (by omega) (Nat.mod_lt _ (by omega))
    rw [show 32 * (t / 32) + t % 32 = t by omega] at this
    rw [this]; exact (h.getD (by omega)).2 _
  · simp [List.getD, List.getElem?_eq_none (show l.flatten.length ≤ t by rw [flat_len h]; exact ht)]
theorem Oids.set {l : List (List Nat)} (h : Oids l) {x : List Nat} (hx : x.length = 32 ∧ Byte x) (k : Nat) : Oids (l.set k x) := fun o ho => by
  rcases List.mem_or_eq_of_mem_set ho with h1 | rfl
  · exact h o h1
  · exact hx
theorem two_of {r : List (List Nat)} {a b : List Nat} (hr : Rising r) (hm : ∀ x, x ∈ r ↔ x = a ∨ x = b) (hne : a ≠ b) : ∃ x y, r = [x, y] ∧ cmpN x y < 0 := by
  have irr : ∀ x, ¬ cmpN x x < 0 := fun x h => by rw [cmpN_self] at h; omega
  match r, hr, hm with
  | [], _, hm => exact absurd ((hm a).2 (Or.inl rfl)) (by simp)
  | [x], _, hm =>
    have h1 := (hm a).2 (Or.inl rfl)
    have h2 := (hm b).2 (Or.inr rfl)
    simp only [List.mem_singleton] at h1 h2
    exact absurd (h1.trans h2.symm) hne
  | [x, y], hr, _ => exact ⟨x, y, rfl, hr 0 1 (by omega) (by simp)⟩
  | x :: y :: z :: r, hr, hm =>
    have h1 := hr 0 1 (by omega) (by simp)
    have h2 := hr 1 2 (by omega) (by simp)
    have h3 := hr 0 2 (by omega) (by simp)
    simp only [List.getD_cons_zero, List.getD_cons_succ] at h1 h2 h3
    have m1 := (hm x).1 (by simp)
    have m2 := (hm y).1 (by simp)
    have m3 := (hm z).1 (by simp)
    rcases m1 with rfl | rfl <;> rcases m2 with rfl | rfl <;> rcases m3 with rfl | rfl <;> first | exact absurd h1 (irr _) | exact absurd h2 (irr _) | exact absurd h3 (irr _)
theorem one_of {r : List (List Nat)} {a : List Nat} (hr : Rising r) (hm : ∀ x, x ∈ r ↔ x = a) : r = [a] := by
  have irr : ∀ x, ¬ cmpN x x < 0 := fun x h => by rw [cmpN_self] at h; omega
  match r, hr, hm with
  | [], _, hm => exact absurd ((hm a).2 rfl) (by simp)
  | [x], _, hm => rw [(hm x).1 (by simp)]
  | x :: y :: r, hr, hm =>
    have h1 := hr 0 1 (by omega) (by simp)
    simp only [List.getD_cons_zero, List.getD_cons_succ] at h1
    rw [(hm x).1 (by simp), (hm y).1 (by simp)] at h1
    exact absurd h1 (irr _)
end Sha
end Go.Proofs.YtmfdahigfnhidaaDoor
