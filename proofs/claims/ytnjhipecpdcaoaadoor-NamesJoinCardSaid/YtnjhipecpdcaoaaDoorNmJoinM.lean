/- The mathematics of NamesJoin: parts with / between are the text, a ref is below each of its beginnings of whole parts, no ref is a repository's name, and what is shortened to 9 bytes has no more. -/
import Derived.Test.YtnjhipecpdcaoaaDoorNmMath
namespace Go.Proofs.YtnjhipecpdcaoaaDoor.Nm
open Go Go.Lib
def jn : List (List UInt8) → List UInt8
  | [] => []
  | [p] => p
  | p :: q :: r => p ++ 47 :: jn (q :: r)
theorem jn_cons (p : List UInt8) {r : List (List UInt8)} (h : r ≠ []) : jn (p :: r) = p ++ 47 :: jn r := by
  obtain ⟨x, t, rfl⟩ := List.exists_cons_of_ne_nil h
  rfl
theorem jn_append : ∀ (a : List (List UInt8)) {b : List (List UInt8)}, a ≠ [] → b ≠ [] → jn (a ++ b) = jn a ++ 47 :: jn b
  | [], _, h, _ => absurd rfl h
  | [p], b, _, hb => by rw [List.singleton_append, jn_cons p hb]; rfl
  | p :: q :: r, b, _, hb => by
    rw [List.cons_append, jn_cons p (by simp), jn_append (q :: r) (by simp) hb, jn_cons p (by simp)]; simp
theorem jn_parts (l : List UInt8) : jn (parts l) = l := by
  rw [parts_eq]
  induction l with
  | nil => rfl
  | cons c l ih =>
    obtain ⟨x, r, e⟩ := List.exists_cons_of_ne_nil (partsR_ne l)
    unfold partsR
    split
    · rename_i h; rw [jn_cons _ (partsR_ne l), ih, h]; rfl
    · rw [e] at ih ⊢
      cases r with
      | nil => rw [← ih]; rfl
      | cons y r => rw [← ih]; rfl
theorem jn_take_succ {ps : List (List UInt8)} {k : Nat} {p : List UInt8} (h : ps[k]? = some p) : jn (ps.take (k + 1)) = if k = 0 then p else jn (ps.take k) ++ [47] ++ p := by
  have hk := (List.getElem?_eq_some_iff.1 h).1
  have e : ps.take (k + 1) = ps.take k ++ [p] := by rw [List.take_add_one, h]; rfl
  rw [e]
  by_cases h0 : k = 0
  · subst h0; rfl
  · rw [if_neg h0, jn_append _ (by intro e2; have := congrArg List.length e2; rw [List.length_take, List.length_nil] at this; omega) (by simp)]; simp [jn]
theorem jn_len {ps : List (List UInt8)} (k : Nat) : (jn (ps.take k)).length ≤ (jn ps).length := by
  by_cases ha : ps.take k = []
  · rw [ha]; exact Nat.zero_le _
  · by_cases hb : ps.drop k = []
    · have e := List.take_append_drop k ps
      rw [hb, List.append_nil] at e
      rw [e]; exact Nat.le_refl _
    · have e := jn_append _ ha hb
      rw [List.take_append_drop] at e
      rw [e, List.length_append]; omega
theorem bad_nil : bad [] = true := by decide
theorem jn_ne {b : List (List UInt8)} {p : List UInt8} (h : b[0]? = some p) (hp : p ≠ []) : jn b ≠ [] := by
  cases b with
  | nil => simp at h
  | cons q r =>
    simp at h
    subst h
    cases r with
    | nil => exact hp
    | cons x r => rw [jn_cons _ (by simp)]; simp
theorem under_refl (l : List UInt8) : under l l = true := by
  unfold under; rw [decide_eq_true rfl]; simp
theorem under_slash (p r : List UInt8) (h : r ≠ []) : under (p ++ 47 :: r) p = true := by
  have hr : 0 < r.length := List.length_pos_iff.2 h
  have h1 : p.isPrefixOf (p ++ 47 :: r) = true := List.isPrefixOf_iff_prefix.2 (List.prefix_append _ _)
  unfold under
  rw [h1, decide_eq_true (p := p.length + 1 < (p ++ 47 :: r).length) (by simp; omega)]
  simp [List.getD]
theorem under_jn {l : List UInt8} (h : ref l = true) {k : Nat} (hk : k < (parts l).length) : under l (jn ((parts l).take (k + 1))) = true := by
  have e := jn_parts l
  by_cases hb : (parts l).drop (k + 1) = []
  · have e2 := List.take_append_drop (k + 1) (parts l)
    rw [hb, List.append_nil] at e2
    rw [e2, e]; exact under_refl l
  · have ha : (parts l).take (k + 1) ≠ [] := by
      intro e2; have := congrArg List.length e2; rw [List.length_take, List.length_nil] at this; omega
    have e3 := jn_append _ ha hb
    rw [List.take_append_drop, e] at e3
    have hlt : k + 1 < (parts l).length := by
      have := List.length_pos_iff.2 hb; rw [List.length_drop] at this; omega
    have hp : ((parts l).drop (k + 1))[0]? = some ((parts l)[k + 1]) := by simp [hlt]
    have hn : (parts l)[k + 1] ≠ [] := by
      intro e4
      unfold ref at h
      rw [Bool.and_eq_true, Bool.not_eq_true'] at h
      have := List.any_eq_false.1 h.2 _ (List.getElem_mem hlt)
      rw [e4, bad_nil] at this; simp at this
    conv => lhs; arg 1; rw [e3]
    exact under_slash _ _ (jn_ne hp hn)
theorem slash_plain : plain [45] 47 = false := by decide
theorem no_slash : ∀ (l : List UInt8), (∀ c ∈ l, c ≠ 47) → partsR l = [l]
  | [], _ => rfl
  | c :: l, h => by
    have hc := h c (List.mem_cons_self ..)
    rw [partsR, if_neg hc, no_slash l (fun d hd => h d (List.mem_cons_of_mem _ hd))]; rfl
theorem not_both {l : List UInt8} (h : ref l = true) : repo l = false := by
  by_cases hs : ∀ c ∈ l, c ≠ 47
  · unfold ref at h
    rw [parts_eq, no_slash l hs] at h
    simp at h
  · have ⟨c, hc, e⟩ : ∃ c, c ∈ l ∧ c = 47 := by
      simpa using hs
    subst e
    have ha : allL (plain [45]) l = false := by
      unfold allL; rw [List.all_eq_false]; exact ⟨47, hc, by rw [slash_plain]; simp⟩
    unfold repo; rw [ha]; simp
theorem short_nine (l : List UInt8) : (short l 9).length ≤ 9 := by
  unfold short
  split
  · omega
  · rw [if_neg (by omega), if_neg (by omega), List.length_append]
    have : (l.take ((9 : Int) - 2).toNat).length ≤ 7 := List.length_take_le _ _
    simp only [List.length_cons, List.length_nil]; omega
end Go.Proofs.YtnjhipecpdcaoaaDoor.Nm
